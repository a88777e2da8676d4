/-
  The document's cursor: the next record.
-/
import Derived.Test.YtohoncgkekiihaaDoorRcText
namespace Go.Proofs.YtohoncgkekiihaaDoor
open Go.RowKit FerryCrc
set_option linter.unusedVariables false
set_option linter.unusedSimpArgs false

/-- What a call for a record leaves. -/
def DRec (w : World) (d g len cap bd : Nat) (L : List Nat) (t : Int) (v : Value) (k : Nat) (q : Int) (p' : Nat) (e : Ending) (w' : World) : Prop :=
  e = .returned (.tuple #[.int .i64 t, v, rerr (k : Int) q]) ∧ Doc w' d g len cap p' bd L ∧ Frm (fun j => j = d) w w'
theorem doc_new {w : World} {d g len cap p bd b0 hi : Nat} {L : List Nat} (h : Doc w d g len cap p bd L) (t : TypeId) (h1 : b0 ≤ hi) (h2 : hi ≤ len) : Doc (w.alloc (.cells #[.slice (some ⟨g, 0, none⟩) len cap, .int .i64 (b0 : Int), .int .i64 (hi : Int)] t)) w.heap.size g len cap b0 hi L :=
  ⟨by rw [World.cell?_alloc_at _ _ _ _ rfl]; rfl, by rw [World.cell?_alloc_at _ _ _ _ rfl]; rfl, by rw [World.cell?_alloc_at _ _ _ _ rfl]; rfl, World.frozen?_alloc_new _ _ _ _, h.bts.below ((Below.refl _ _).alloc (Nat.le_refl _) _), ⟨by have := h.ne.2; omega, Nat.lt_of_lt_of_le h.ne.2 ((Below.refl _ _).alloc (Nat.le_refl _) _).size⟩, h1, h2⟩
/-- Which tag a call for a record takes: any, or just this one. -/
def Takes (any : Bool) (want : Int) (t : Nat) : Prop := t ≠ 0 ∧ (any = false → (t : Int) = want)

set_option maxRecDepth 100000 in
set_option maxHeartbeats 1600000 in
theorem rrec_short (d g len cap p bd : Nat) (L : List Nat) (want : Int) (any : Bool) (w : World) (h : Doc w d g len cap p bd L) (hs : bd - p < 3) :
    Calls Tryd.prog 85 #[.pointer (some ⟨d, 0, none⟩), .int .i64 want, .bool any] w fun e w' => DRec w d g len cap bd L 0 (.pointer none) 1 (p : Int) p e w' := by
  have H0 := hide h
  have HT := hide (two_alloc w (.int .i64 0) (.int .i64 0) 31)
  have HB : Hid (Below w.heap.size w (w.alloc (.cells #[.int .i64 0, .int .i64 0] 31))) := (Below.refl _ _).alloc (Nat.le_refl _) _
  have H := hide (h.below HB.out)
  have HC := hide (fun w2 (h2 : Doc w2 d g len cap p bd L) => rleft_any d g len cap p bd L w2 h2)
  have hlt : ((bd - p : Nat) : Int) < 3 := by omega
  generalize bd - p = q at *
  clear h
  go_enter Tryd.func85, Tryd.ntmps85
  go_wp2_with fail
  refine Calls.mono (HC.out _ H.out) ?_
  rintro e w1 ⟨rfl, hb⟩
  have HT1 := hide (HT.out.below hb)
  have H1 := hide (H.out.below hb)
  have HB1 := hide (chain HB.out hb)
  clear hb
  have c1 := H1.out.c1
  have t0 := HT1.out.c0
  have t1 := HT1.out.c1
  have f0 := HT1.out.f0
  have f1 := HT1.out.f1
  go_wp2
  go_region
  all_goals go_wp2
  all_goals
    have q0 := (HT1.out.set (.int .i64 1) (.int .i64 (p : Int))).c0
    have q1 := (HT1.out.set (.int .i64 1) (.int .i64 (p : Int))).c1
    have HW := hide ((bel_two (u := .int .i64 1) (v := .int .i64 (p : Int)) HB1.out (Nat.le_refl _)).drew)
    (try simp only [Exit.inBlock, Exit.then])
    refine bodyPost_ret (v := .tuple #[.int .i64 0, .pointer none, rerr 1 (p : Int)]) (by simp [results, Tryd.results85, go_sem, q0, q1]; rfl) rfl ?_
    exact ⟨rfl, H0.out.below HW.out, Frm.ofBelow HW.out⟩

set_option maxRecDepth 100000 in
set_option maxHeartbeats 1600000 in
theorem rrec_tag (d g len cap p bd : Nat) (L : List Nat) (want : Int) (any : Bool) (t : Nat) (w : World) (h : Doc w d g len cap p bd L) (hs : 3 ≤ bd - p) (ht : L[p]? = some t) (hx : ¬ Takes any want t) :
    Calls Tryd.prog 85 #[.pointer (some ⟨d, 0, none⟩), .int .i64 want, .bool any] w fun e w' => DRec w d g len cap bd L 0 (.pointer none) 3 (p : Int) p e w' := by
  have H0 := hide h
  have HT := hide (two_alloc w (.int .i64 0) (.int .i64 0) 31)
  have HB : Hid (Below w.heap.size w (w.alloc (.cells #[.int .i64 0, .int .i64 0] 31))) := (Below.refl _ _).alloc (Nat.le_refl _) _
  have H := hide (h.below HB.out)
  have HC := hide (fun w2 (h2 : Doc w2 d g len cap p bd L) => rleft_any d g len cap p bd L w2 h2)
  have HTG := hide ht
  have HSM := hide (h.bts.small t (List.mem_of_getElem? ht))
  have hlt : ¬ ((bd - p : Nat) : Int) < 3 := by omega
  have hlt2 : ¬ (bd - p : Nat) < 3 := by omega
  have hpl : p < len := by have := h.most; have := h.le; omega
  have hct : IntKind.i64.wrap (t : Int) = (t : Int) := by have := HSM.out; rw [IntKind.wrap_i64]; omega
  generalize bd - p = q at *
  clear h hs ht
  by_cases h0 : t = 0
  · subst h0
    cases any
    · by_cases hw : (0 : Int) = want
      · subst hw
        go_enter Tryd.func85, Tryd.ntmps85
        go_wp2_with fail
        refine Calls.mono (HC.out _ H.out) ?_
        rintro e w1 ⟨rfl, hb⟩
        have HT1 := hide (HT.out.below hb)
        have H1 := hide (H.out.below hb)
        have HB1 := hide (chain HB.out hb)
        clear hb
        obtain ⟨b', off', hbo, c', hl, hc⟩ := H1.out.bts.cell p hpl
        simp only [Option.some.injEq, Addr.mk.injEq, and_true] at hbo
        obtain ⟨rfl, rfl⟩ := hbo
        rw [Nat.zero_add] at hc
        rw [HTG.out] at hl
        obtain rfl := Option.some.inj hl
        clear hl
        have c0 := H1.out.c0
        have c1 := H1.out.c1
        have i1 : (0 : Int) ≤ (p : Int) := by omega
        have i2 : (p : Int) < (len : Int) := by omega
        go_wp2_with fail
        go_quiet (fail)
        have HQ : Hid (Below w1.heap.size w1 (w1.drewN nq)) := ⟨rfl, rfl, rfl, Nat.le_refl _, fun _ _ => rfl⟩
        have HT2 := hide (HT1.out.below HQ.out)
        have H2 := hide (H1.out.below HQ.out)
        have HB2 := hide (chain HB1.out HQ.out)
        clear c0 c1 hc HQ HT1 H1 HB1
        generalize w1.drewN nq = w2 at *
        have HT1 := HT2
        have H1 := H2
        have HB1 := HB2
        have c1 := H1.out.c1
        have t0 := HT1.out.c0
        have t1 := HT1.out.c1
        have f0 := HT1.out.f0
        have f1 := HT1.out.f1
        go_wp2
        go_region
        all_goals go_wp2
        all_goals
          have q0 := (HT1.out.set (.int .i64 3) (.int .i64 (p : Int))).c0
          have q1 := (HT1.out.set (.int .i64 3) (.int .i64 (p : Int))).c1
          have HW := hide ((bel_two (u := .int .i64 3) (v := .int .i64 (p : Int)) HB1.out (Nat.le_refl _)).drew)
          (try simp only [Exit.inBlock, Exit.then])
          refine bodyPost_ret (v := .tuple #[.int .i64 0, .pointer none, rerr 3 (p : Int)]) (by simp [results, Tryd.results85, go_sem, q0, q1]; rfl) rfl ?_
          exact ⟨rfl, H0.out.below HW.out, Frm.ofBelow HW.out⟩
      · have dw : ((0 : Int) != want) = true := by simp; exact hw
        clear hw
        go_enter Tryd.func85, Tryd.ntmps85
        go_wp2_with fail
        refine Calls.mono (HC.out _ H.out) ?_
        rintro e w1 ⟨rfl, hb⟩
        have HT1 := hide (HT.out.below hb)
        have H1 := hide (H.out.below hb)
        have HB1 := hide (chain HB.out hb)
        clear hb
        obtain ⟨b', off', hbo, c', hl, hc⟩ := H1.out.bts.cell p hpl
        simp only [Option.some.injEq, Addr.mk.injEq, and_true] at hbo
        obtain ⟨rfl, rfl⟩ := hbo
        rw [Nat.zero_add] at hc
        rw [HTG.out] at hl
        obtain rfl := Option.some.inj hl
        clear hl
        have c0 := H1.out.c0
        have c1 := H1.out.c1
        have i1 : (0 : Int) ≤ (p : Int) := by omega
        have i2 : (p : Int) < (len : Int) := by omega
        go_wp2_with fail
        go_quiet (fail)
        have HQ : Hid (Below w1.heap.size w1 (w1.drewN nq)) := ⟨rfl, rfl, rfl, Nat.le_refl _, fun _ _ => rfl⟩
        have HT2 := hide (HT1.out.below HQ.out)
        have H2 := hide (H1.out.below HQ.out)
        have HB2 := hide (chain HB1.out HQ.out)
        clear c0 c1 hc HQ HT1 H1 HB1
        generalize w1.drewN nq = w2 at *
        have HT1 := HT2
        have H1 := H2
        have HB1 := HB2
        have c1 := H1.out.c1
        have t0 := HT1.out.c0
        have t1 := HT1.out.c1
        have f0 := HT1.out.f0
        have f1 := HT1.out.f1
        go_wp2
        go_region
        all_goals go_wp2
        all_goals
          have q0 := (HT1.out.set (.int .i64 3) (.int .i64 (p : Int))).c0
          have q1 := (HT1.out.set (.int .i64 3) (.int .i64 (p : Int))).c1
          have HW := hide ((bel_two (u := .int .i64 3) (v := .int .i64 (p : Int)) HB1.out (Nat.le_refl _)).drew)
          (try simp only [Exit.inBlock, Exit.then])
          refine bodyPost_ret (v := .tuple #[.int .i64 0, .pointer none, rerr 3 (p : Int)]) (by simp [results, Tryd.results85, go_sem, q0, q1]; rfl) rfl ?_
          exact ⟨rfl, H0.out.below HW.out, Frm.ofBelow HW.out⟩
    · skip
      go_enter Tryd.func85, Tryd.ntmps85
      go_wp2_with fail
      refine Calls.mono (HC.out _ H.out) ?_
      rintro e w1 ⟨rfl, hb⟩
      have HT1 := hide (HT.out.below hb)
      have H1 := hide (H.out.below hb)
      have HB1 := hide (chain HB.out hb)
      clear hb
      obtain ⟨b', off', hbo, c', hl, hc⟩ := H1.out.bts.cell p hpl
      simp only [Option.some.injEq, Addr.mk.injEq, and_true] at hbo
      obtain ⟨rfl, rfl⟩ := hbo
      rw [Nat.zero_add] at hc
      rw [HTG.out] at hl
      obtain rfl := Option.some.inj hl
      clear hl
      have c0 := H1.out.c0
      have c1 := H1.out.c1
      have i1 : (0 : Int) ≤ (p : Int) := by omega
      have i2 : (p : Int) < (len : Int) := by omega
      go_wp2_with fail
      go_quiet (fail)
      have HQ : Hid (Below w1.heap.size w1 (w1.drewN nq)) := ⟨rfl, rfl, rfl, Nat.le_refl _, fun _ _ => rfl⟩
      have HT2 := hide (HT1.out.below HQ.out)
      have H2 := hide (H1.out.below HQ.out)
      have HB2 := hide (chain HB1.out HQ.out)
      clear c0 c1 hc HQ HT1 H1 HB1
      generalize w1.drewN nq = w2 at *
      have HT1 := HT2
      have H1 := H2
      have HB1 := HB2
      have c1 := H1.out.c1
      have t0 := HT1.out.c0
      have t1 := HT1.out.c1
      have f0 := HT1.out.f0
      have f1 := HT1.out.f1
      go_wp2
      go_region
      all_goals go_wp2
      all_goals
        have q0 := (HT1.out.set (.int .i64 3) (.int .i64 (p : Int))).c0
        have q1 := (HT1.out.set (.int .i64 3) (.int .i64 (p : Int))).c1
        have HW := hide ((bel_two (u := .int .i64 3) (v := .int .i64 (p : Int)) HB1.out (Nat.le_refl _)).drew)
        (try simp only [Exit.inBlock, Exit.then])
        refine bodyPost_ret (v := .tuple #[.int .i64 0, .pointer none, rerr 3 (p : Int)]) (by simp [results, Tryd.results85, go_sem, q0, q1]; rfl) rfl ?_
        exact ⟨rfl, H0.out.below HW.out, Frm.ofBelow HW.out⟩
  · have d0 : ((t : Int) == 0) = false := by simp; exact h0
    cases any
    · have hw : ¬ (t : Int) = want := fun e => hx ⟨h0, fun _ => e⟩
      have dw : ((t : Int) != want) = true := by simp; exact hw
      clear hw
      go_enter Tryd.func85, Tryd.ntmps85
      go_wp2_with fail
      refine Calls.mono (HC.out _ H.out) ?_
      rintro e w1 ⟨rfl, hb⟩
      have HT1 := hide (HT.out.below hb)
      have H1 := hide (H.out.below hb)
      have HB1 := hide (chain HB.out hb)
      clear hb
      obtain ⟨b', off', hbo, c', hl, hc⟩ := H1.out.bts.cell p hpl
      simp only [Option.some.injEq, Addr.mk.injEq, and_true] at hbo
      obtain ⟨rfl, rfl⟩ := hbo
      rw [Nat.zero_add] at hc
      rw [HTG.out] at hl
      obtain rfl := Option.some.inj hl
      clear hl
      have c0 := H1.out.c0
      have c1 := H1.out.c1
      have i1 : (0 : Int) ≤ (p : Int) := by omega
      have i2 : (p : Int) < (len : Int) := by omega
      go_wp2_with fail
      go_quiet (fail)
      have HQ : Hid (Below w1.heap.size w1 (w1.drewN nq)) := ⟨rfl, rfl, rfl, Nat.le_refl _, fun _ _ => rfl⟩
      have HT2 := hide (HT1.out.below HQ.out)
      have H2 := hide (H1.out.below HQ.out)
      have HB2 := hide (chain HB1.out HQ.out)
      clear c0 c1 hc HQ HT1 H1 HB1
      generalize w1.drewN nq = w2 at *
      have HT1 := HT2
      have H1 := H2
      have HB1 := HB2
      have c1 := H1.out.c1
      have t0 := HT1.out.c0
      have t1 := HT1.out.c1
      have f0 := HT1.out.f0
      have f1 := HT1.out.f1
      go_wp2
      go_region
      all_goals go_wp2
      all_goals
        have q0 := (HT1.out.set (.int .i64 3) (.int .i64 (p : Int))).c0
        have q1 := (HT1.out.set (.int .i64 3) (.int .i64 (p : Int))).c1
        have HW := hide ((bel_two (u := .int .i64 3) (v := .int .i64 (p : Int)) HB1.out (Nat.le_refl _)).drew)
        (try simp only [Exit.inBlock, Exit.then])
        refine bodyPost_ret (v := .tuple #[.int .i64 0, .pointer none, rerr 3 (p : Int)]) (by simp [results, Tryd.results85, go_sem, q0, q1]; rfl) rfl ?_
        exact ⟨rfl, H0.out.below HW.out, Frm.ofBelow HW.out⟩
    · exact absurd ⟨h0, fun e => by cases e⟩ hx

set_option maxRecDepth 100000 in
set_option maxHeartbeats 1600000 in
theorem rrec_len (d g len cap p bd : Nat) (L : List Nat) (want : Int) (any : Bool) (t : Nat) (w : World) (h : Doc w d g len cap p bd L) (hs : 3 ≤ bd - p) (ht : L[p]? = some t) (hx : Takes any want t) (hn : bd - (p + 3) < nbe (cut L (p + 1) 2)) :
    Calls Tryd.prog 85 #[.pointer (some ⟨d, 0, none⟩), .int .i64 want, .bool any] w fun e w' => DRec w d g len cap bd L 0 (.pointer none) 5 ((p + 1 : Nat) : Int) p e w' := by
  have H0 := hide h
  have HT := hide (two_alloc w (.int .i64 0) (.int .i64 0) 31)
  have HB : Hid (Below w.heap.size w (w.alloc (.cells #[.int .i64 0, .int .i64 0] 31))) := (Below.refl _ _).alloc (Nat.le_refl _) _
  have H := hide (h.below HB.out)
  have HC := hide (fun w2 (h2 : Doc w2 d g len cap p bd L) => rleft_any d g len cap p bd L w2 h2)
  have HTG := hide ht
  have HSM := hide (h.bts.small t (List.mem_of_getElem? ht))
  have hlt : ¬ ((bd - p : Nat) : Int) < 3 := by omega
  have hlt2 : ¬ (bd - p : Nat) < 3 := by omega
  have hpl : p < len := by have := h.most; have := h.le; omega
  have hct : IntKind.i64.wrap (t : Int) = (t : Int) := by have := HSM.out; rw [IntKind.wrap_i64]; omega
  have HP := hide (fun w2 (h2 : Doc w2 d g len cap p bd L) => rvalue_any d g len cap p bd L (p + 1) 2 w2 h2 (by decide) (by have := h.most; omega))
  have hq := cut_lt h.bts.small (p + 1) 2
  have hq2 := h.most
  have hq3 := h.bts.most
  have hq4 := h.bts.fit
  have hq5 := h.le
  have hdl : d < w.heap.size := h.lt
  obtain ⟨p1, hp1⟩ : ∃ p1, p + 1 = p1 := ⟨_, rfl⟩
  have e1 : (p : Int) + 1 = (p1 : Int) := by omega
  have hw1 : IntKind.i64.wrap (p1 : Int) = (p1 : Int) := by rw [IntKind.wrap_i64]; omega
  have hws : IntKind.i64.wrap (((bd - p : Nat) : Int) - 3) = ((bd - p : Nat) : Int) - 3 := by rw [IntKind.wrap_i64]; omega
  rw [hp1] at HP hn hq ⊢
  generalize nbe (cut L p1 2) = m at *
  have e2 : ((bd - p : Nat) : Int) - 3 < (m : Int) := by omega
  have d0 : ((t : Int) == 0) = false := by simp; exact hx.1
  have HX : Hid (any = false → (t : Int) = want) := hx.2
  generalize bd - p = q at *
  clear h hs ht hn hx hp1
  cases any
  · have hw : (t : Int) = want := HX.out rfl
    subst hw
    go_enter Tryd.func85, Tryd.ntmps85
    go_wp2_with fail
    refine Calls.mono (HC.out _ H.out) ?_
    rintro e w1 ⟨rfl, hb⟩
    have HT1 := hide (HT.out.below hb)
    have H1 := hide (H.out.below hb)
    have HB1 := hide (chain HB.out hb)
    clear hb
    obtain ⟨b', off', hbo, c', hl, hc⟩ := H1.out.bts.cell p hpl
    simp only [Option.some.injEq, Addr.mk.injEq, and_true] at hbo
    obtain ⟨rfl, rfl⟩ := hbo
    rw [Nat.zero_add] at hc
    rw [HTG.out] at hl
    obtain rfl := Option.some.inj hl
    clear hl
    have c0 := H1.out.c0
    have c1 := H1.out.c1
    have i1 : (0 : Int) ≤ (p : Int) := by omega
    have i2 : (p : Int) < (len : Int) := by omega
    go_wp2_with fail
    go_quiet (fail)
    have HQ : Hid (Below w1.heap.size w1 (w1.drewN nq)) := ⟨rfl, rfl, rfl, Nat.le_refl _, fun _ _ => rfl⟩
    have HT2 := hide (HT1.out.below HQ.out)
    have H2 := hide (H1.out.below HQ.out)
    have HB2 := hide (chain HB1.out HQ.out)
    clear c0 c1 hc HQ HT1 H1 HB1
    generalize w1.drewN nq = w2 at *
    have c1 := H2.out.c1
    go_wp2_with fail
    refine Calls.mono (HP.out w2 H2.out) ?_
    rintro e w3 ⟨rfl, rfl⟩
    go_wp2_with fail
    refine Calls.mono (HC.out w2 H2.out) ?_
    rintro e w3 ⟨rfl, hb⟩
    have HT3 := hide (HT2.out.below hb)
    have H3 := hide (H2.out.below hb)
    have HB3 := hide (chain HB2.out hb)
    clear hb c1 HT2 H2 HB2
    have HT1 := HT3
    have H1 := H3
    have HB1 := HB3
    have c1 := H1.out.c1
    have t0 := HT1.out.c0
    have t1 := HT1.out.c1
    have f0 := HT1.out.f0
    have f1 := HT1.out.f1
    go_wp2
    go_region
    all_goals go_wp2
    all_goals
      have q0 := (HT1.out.set (.int .i64 5) (.int .i64 (p1 : Int))).c0
      have q1 := (HT1.out.set (.int .i64 5) (.int .i64 (p1 : Int))).c1
      have HW := hide ((bel_two (u := .int .i64 5) (v := .int .i64 (p1 : Int)) HB1.out (Nat.le_refl _)).drew)
      (try simp only [Exit.inBlock, Exit.then])
      refine bodyPost_ret (v := .tuple #[.int .i64 0, .pointer none, rerr 5 (p1 : Int)]) (by simp [results, Tryd.results85, go_sem, q0, q1]; rfl) rfl ?_
      exact ⟨rfl, H0.out.below HW.out, Frm.ofBelow HW.out⟩
  · skip
    go_enter Tryd.func85, Tryd.ntmps85
    go_wp2_with fail
    refine Calls.mono (HC.out _ H.out) ?_
    rintro e w1 ⟨rfl, hb⟩
    have HT1 := hide (HT.out.below hb)
    have H1 := hide (H.out.below hb)
    have HB1 := hide (chain HB.out hb)
    clear hb
    obtain ⟨b', off', hbo, c', hl, hc⟩ := H1.out.bts.cell p hpl
    simp only [Option.some.injEq, Addr.mk.injEq, and_true] at hbo
    obtain ⟨rfl, rfl⟩ := hbo
    rw [Nat.zero_add] at hc
    rw [HTG.out] at hl
    obtain rfl := Option.some.inj hl
    clear hl
    have c0 := H1.out.c0
    have c1 := H1.out.c1
    have i1 : (0 : Int) ≤ (p : Int) := by omega
    have i2 : (p : Int) < (len : Int) := by omega
    go_wp2_with fail
    go_quiet (fail)
    have HQ : Hid (Below w1.heap.size w1 (w1.drewN nq)) := ⟨rfl, rfl, rfl, Nat.le_refl _, fun _ _ => rfl⟩
    have HT2 := hide (HT1.out.below HQ.out)
    have H2 := hide (H1.out.below HQ.out)
    have HB2 := hide (chain HB1.out HQ.out)
    clear c0 c1 hc HQ HT1 H1 HB1
    generalize w1.drewN nq = w2 at *
    have c1 := H2.out.c1
    go_wp2_with fail
    refine Calls.mono (HP.out w2 H2.out) ?_
    rintro e w3 ⟨rfl, rfl⟩
    go_wp2_with fail
    refine Calls.mono (HC.out w2 H2.out) ?_
    rintro e w3 ⟨rfl, hb⟩
    have HT3 := hide (HT2.out.below hb)
    have H3 := hide (H2.out.below hb)
    have HB3 := hide (chain HB2.out hb)
    clear hb c1 HT2 H2 HB2
    have HT1 := HT3
    have H1 := H3
    have HB1 := HB3
    have c1 := H1.out.c1
    have t0 := HT1.out.c0
    have t1 := HT1.out.c1
    have f0 := HT1.out.f0
    have f1 := HT1.out.f1
    go_wp2
    go_region
    all_goals go_wp2
    all_goals
      have q0 := (HT1.out.set (.int .i64 5) (.int .i64 (p1 : Int))).c0
      have q1 := (HT1.out.set (.int .i64 5) (.int .i64 (p1 : Int))).c1
      have HW := hide ((bel_two (u := .int .i64 5) (v := .int .i64 (p1 : Int)) HB1.out (Nat.le_refl _)).drew)
      (try simp only [Exit.inBlock, Exit.then])
      refine bodyPost_ret (v := .tuple #[.int .i64 0, .pointer none, rerr 5 (p1 : Int)]) (by simp [results, Tryd.results85, go_sem, q0, q1]; rfl) rfl ?_
      exact ⟨rfl, H0.out.below HW.out, Frm.ofBelow HW.out⟩

set_option maxRecDepth 100000 in
set_option maxHeartbeats 1600000 in
theorem rrec_ok (d g len cap p bd : Nat) (L : List Nat) (want : Int) (any : Bool) (t : Nat) (w : World) (h : Doc w d g len cap p bd L) (hs : 3 ≤ bd - p) (ht : L[p]? = some t) (hx : Takes any want t) (hn : nbe (cut L (p + 1) 2) ≤ bd - (p + 3)) :
    Calls Tryd.prog 85 #[.pointer (some ⟨d, 0, none⟩), .int .i64 want, .bool any] w fun e w' => ∃ D, DRec w d g len cap bd L (t : Int) (.pointer (some ⟨D, 0, none⟩)) 0 (-1) (p + 3 + nbe (cut L (p + 1) 2)) e w' ∧ w.heap.size ≤ D ∧ Doc w' D g len cap (p + 3) (p + 3 + nbe (cut L (p + 1) 2)) L := by
  have H0 := hide h
  have HT := hide (two_alloc w (.int .i64 0) (.int .i64 0) 31)
  have HB : Hid (Below w.heap.size w (w.alloc (.cells #[.int .i64 0, .int .i64 0] 31))) := (Below.refl _ _).alloc (Nat.le_refl _) _
  have H := hide (h.below HB.out)
  have HC := hide (fun w2 (h2 : Doc w2 d g len cap p bd L) => rleft_any d g len cap p bd L w2 h2)
  have HTG := hide ht
  have HSM := hide (h.bts.small t (List.mem_of_getElem? ht))
  have hlt : ¬ ((bd - p : Nat) : Int) < 3 := by omega
  have hlt2 : ¬ (bd - p : Nat) < 3 := by omega
  have hpl : p < len := by have := h.most; have := h.le; omega
  have hct : IntKind.i64.wrap (t : Int) = (t : Int) := by have := HSM.out; rw [IntKind.wrap_i64]; omega
  have HP := hide (fun w2 (h2 : Doc w2 d g len cap p bd L) => rvalue_any d g len cap p bd L (p + 1) 2 w2 h2 (by decide) (by have := h.most; omega))
  have hq := cut_lt h.bts.small (p + 1) 2
  have hq2 := h.most
  have hq3 := h.bts.most
  have hq4 := h.bts.fit
  have hq5 := h.le
  have hdl : d < w.heap.size := h.lt
  obtain ⟨p1, hp1⟩ : ∃ p1, p + 1 = p1 := ⟨_, rfl⟩
  have e1 : (p : Int) + 1 = (p1 : Int) := by omega
  have hw1 : IntKind.i64.wrap (p1 : Int) = (p1 : Int) := by rw [IntKind.wrap_i64]; omega
  have hws : IntKind.i64.wrap (((bd - p : Nat) : Int) - 3) = ((bd - p : Nat) : Int) - 3 := by rw [IntKind.wrap_i64]; omega
  rw [hp1] at HP hn hq ⊢
  generalize nbe (cut L p1 2) = m at *
  obtain ⟨b0, hb0⟩ : ∃ b0, p + 3 = b0 := ⟨_, rfl⟩
  obtain ⟨hi, hhi⟩ : ∃ hi, b0 + m = hi := ⟨_, rfl⟩
  obtain ⟨u, hu⟩ : ∃ u, 3 + m = u := ⟨_, rfl⟩
  rw [hb0, hhi]
  have e3 : (p : Int) + 3 = (b0 : Int) := by omega
  have e4 : (b0 : Int) + (m : Int) = (hi : Int) := by omega
  have e5 : (3 : Int) + (m : Int) = (u : Int) := by omega
  have e6 : (p : Int) + (u : Int) = (hi : Int) := by omega
  have hwb : IntKind.i64.wrap (b0 : Int) = (b0 : Int) := by rw [IntKind.wrap_i64]; omega
  have hwh : IntKind.i64.wrap (hi : Int) = (hi : Int) := by rw [IntKind.wrap_i64]; omega
  have hwu : IntKind.i64.wrap (u : Int) = (u : Int) := by rw [IntKind.wrap_i64]; omega
  have e2 : ¬ ((bd - p : Nat) : Int) - 3 < (m : Int) := by omega
  have hpb : hi ≤ bd := by omega
  have n2 : b0 ≤ hi := by omega
  have d0 : ((t : Int) == 0) = false := by simp; exact hx.1
  have HX : Hid (any = false → (t : Int) = want) := hx.2
  generalize bd - p = q at *
  clear h hs ht hn hx hp1 hb0 hhi hu
  cases any
  · have hw : (t : Int) = want := HX.out rfl
    subst hw
    go_enter Tryd.func85, Tryd.ntmps85
    go_wp2_with fail
    refine Calls.mono (HC.out _ H.out) ?_
    rintro e w1 ⟨rfl, hb⟩
    have HT1 := hide (HT.out.below hb)
    have H1 := hide (H.out.below hb)
    have HB1 := hide (chain HB.out hb)
    clear hb
    obtain ⟨b', off', hbo, c', hl, hc⟩ := H1.out.bts.cell p hpl
    simp only [Option.some.injEq, Addr.mk.injEq, and_true] at hbo
    obtain ⟨rfl, rfl⟩ := hbo
    rw [Nat.zero_add] at hc
    rw [HTG.out] at hl
    obtain rfl := Option.some.inj hl
    clear hl
    have c0 := H1.out.c0
    have c1 := H1.out.c1
    have i1 : (0 : Int) ≤ (p : Int) := by omega
    have i2 : (p : Int) < (len : Int) := by omega
    go_wp2_with fail
    go_quiet (fail)
    have HQ : Hid (Below w1.heap.size w1 (w1.drewN nq)) := ⟨rfl, rfl, rfl, Nat.le_refl _, fun _ _ => rfl⟩
    have HT2 := hide (HT1.out.below HQ.out)
    have H2 := hide (H1.out.below HQ.out)
    have HB2 := hide (chain HB1.out HQ.out)
    clear c0 c1 hc HQ HT1 H1 HB1
    generalize w1.drewN nq = w2 at *
    have c1 := H2.out.c1
    go_wp2_with fail
    refine Calls.mono (HP.out w2 H2.out) ?_
    rintro e w3 ⟨rfl, rfl⟩
    go_wp2_with fail
    refine Calls.mono (HC.out w2 H2.out) ?_
    rintro e w3 ⟨rfl, hb⟩
    have HT3 := hide (HT2.out.below hb)
    have H3 := hide (H2.out.below hb)
    have HB3 := hide (chain HB2.out hb)
    have HZ3 : Hid (w.heap.size < w3.heap.size) := by unfold Hid; exact block_lt_of_cell HT3.out.c0
    clear hb c1 HT2 H2 HB2
    have c0 := H3.out.c0
    have c1 := H3.out.c1
    go_wp2
    go_region
    have HBX : Hid (Below w3.heap.size w3 (w3.alloc (.cells #[.slice (some ⟨g, 0, none⟩) len cap, .int .i64 (b0 : Int), .int .i64 (hi : Int)] 68)).drew) := ((Below.refl _ _).alloc (Nat.le_refl _) _).drew
    have HN4 : Hid (Doc (w3.alloc (.cells #[.slice (some ⟨g, 0, none⟩) len cap, .int .i64 (b0 : Int), .int .i64 (hi : Int)] 68)).drew w3.heap.size g len cap b0 hi L) := (doc_new H3.out _ n2 (by omega)).below (Below.refl _ _).drew
    have H4 := hide (H3.out.below HBX.out)
    have HT4 := hide (HT3.out.below HBX.out)
    have HB4 := hide (chain HB3.out HBX.out)
    clear c0 c1 HBX
    generalize (w3.alloc (.cells #[.slice (some ⟨g, 0, none⟩) len cap, .int .i64 (b0 : Int), .int .i64 (hi : Int)] 68)).drew = w4 at *
    have c1 := H4.out.c1
    have f1 := H4.out.f1
    go_wp2_with fail
    have HMV := hide (H4.out.move (q := hi) hpb)
    have HF := hide ((Frm.ofBelow (S := fun j => j = d) HB4.out).trans (frm_setCell w4 ⟨d, 1, none⟩ (.int .i64 (hi : Int))) (fun j _ t => t))
    have HT5 := hide (HT4.out.far (b' := d) (o := 1) (u := .int .i64 (hi : Int)) (by omega))
    have HN5 := hide (HN4.out.frm (frm_setCell w4 ⟨d, 1, none⟩ (.int .i64 (hi : Int))) (by show ¬ w3.heap.size = d; have := HZ3.out; omega) (by show ¬ g = d; exact H0.out.ne.1))
    clear c1 f1
    generalize w4.setCell ⟨d, 1, none⟩ (.int .i64 (hi : Int)) = W5 at *
    refine Calls.mono (rnone_any W5) ?_
    rintro e w6 ⟨rfl, hb⟩
    have HT6 := hide (HT5.out.below hb)
    have H6 := hide (HMV.out.below hb)
    have HN6 := hide (HN5.out.below hb)
    have HF6 := hide (HF.out.trans (Frm.ofBelow (S := fun _ => False) hb) (fun j _ t => t.elim))
    have t0 := HT6.out.c0
    have t1 := HT6.out.c1
    have f0 := HT6.out.f0
    have f1 := HT6.out.f1
    clear hb
    unfold rerr
    go_wp2
    have q0 := (HT6.out.set (.int .i64 0) (.int .i64 (-1))).c0
    have q1 := (HT6.out.set (.int .i64 0) (.int .i64 (-1))).c1
    have HW := hide (frm_two (u := .int .i64 0) (v := .int .i64 (-1)) HF6.out (Nat.le_refl _))
    have HD6 := hide (H6.out.two (b := w.heap.size) (u := .int .i64 0) (v := .int .i64 (-1)) (by omega) (by have := H0.out.ne.2; omega))
    have HN7 := hide (HN6.out.two (b := w.heap.size) (u := .int .i64 0) (v := .int .i64 (-1)) (by have := HZ3.out; omega) (by have := H0.out.ne.2; omega))
    (try simp only [Exit.inBlock, Exit.then])
    refine bodyPost_ret (v := .tuple #[.int .i64 (t : Int), .pointer (some ⟨w3.heap.size, 0, none⟩), rerr 0 (-1)]) (by simp [results, Tryd.results85, go_sem, q0, q1]; rfl) rfl ?_
    exact ⟨w3.heap.size, ⟨rfl, HD6.out, HW.out⟩, by have := HZ3.out; omega, HN7.out⟩
  · skip
    go_enter Tryd.func85, Tryd.ntmps85
    go_wp2_with fail
    refine Calls.mono (HC.out _ H.out) ?_
    rintro e w1 ⟨rfl, hb⟩
    have HT1 := hide (HT.out.below hb)
    have H1 := hide (H.out.below hb)
    have HB1 := hide (chain HB.out hb)
    clear hb
    obtain ⟨b', off', hbo, c', hl, hc⟩ := H1.out.bts.cell p hpl
    simp only [Option.some.injEq, Addr.mk.injEq, and_true] at hbo
    obtain ⟨rfl, rfl⟩ := hbo
    rw [Nat.zero_add] at hc
    rw [HTG.out] at hl
    obtain rfl := Option.some.inj hl
    clear hl
    have c0 := H1.out.c0
    have c1 := H1.out.c1
    have i1 : (0 : Int) ≤ (p : Int) := by omega
    have i2 : (p : Int) < (len : Int) := by omega
    go_wp2_with fail
    go_quiet (fail)
    have HQ : Hid (Below w1.heap.size w1 (w1.drewN nq)) := ⟨rfl, rfl, rfl, Nat.le_refl _, fun _ _ => rfl⟩
    have HT2 := hide (HT1.out.below HQ.out)
    have H2 := hide (H1.out.below HQ.out)
    have HB2 := hide (chain HB1.out HQ.out)
    clear c0 c1 hc HQ HT1 H1 HB1
    generalize w1.drewN nq = w2 at *
    have c1 := H2.out.c1
    go_wp2_with fail
    refine Calls.mono (HP.out w2 H2.out) ?_
    rintro e w3 ⟨rfl, rfl⟩
    go_wp2_with fail
    refine Calls.mono (HC.out w2 H2.out) ?_
    rintro e w3 ⟨rfl, hb⟩
    have HT3 := hide (HT2.out.below hb)
    have H3 := hide (H2.out.below hb)
    have HB3 := hide (chain HB2.out hb)
    have HZ3 : Hid (w.heap.size < w3.heap.size) := by unfold Hid; exact block_lt_of_cell HT3.out.c0
    clear hb c1 HT2 H2 HB2
    have c0 := H3.out.c0
    have c1 := H3.out.c1
    go_wp2
    go_region
    have HBX : Hid (Below w3.heap.size w3 (w3.alloc (.cells #[.slice (some ⟨g, 0, none⟩) len cap, .int .i64 (b0 : Int), .int .i64 (hi : Int)] 68)).drew) := ((Below.refl _ _).alloc (Nat.le_refl _) _).drew
    have HN4 : Hid (Doc (w3.alloc (.cells #[.slice (some ⟨g, 0, none⟩) len cap, .int .i64 (b0 : Int), .int .i64 (hi : Int)] 68)).drew w3.heap.size g len cap b0 hi L) := (doc_new H3.out _ n2 (by omega)).below (Below.refl _ _).drew
    have H4 := hide (H3.out.below HBX.out)
    have HT4 := hide (HT3.out.below HBX.out)
    have HB4 := hide (chain HB3.out HBX.out)
    clear c0 c1 HBX
    generalize (w3.alloc (.cells #[.slice (some ⟨g, 0, none⟩) len cap, .int .i64 (b0 : Int), .int .i64 (hi : Int)] 68)).drew = w4 at *
    have c1 := H4.out.c1
    have f1 := H4.out.f1
    go_wp2_with fail
    have HMV := hide (H4.out.move (q := hi) hpb)
    have HF := hide ((Frm.ofBelow (S := fun j => j = d) HB4.out).trans (frm_setCell w4 ⟨d, 1, none⟩ (.int .i64 (hi : Int))) (fun j _ t => t))
    have HT5 := hide (HT4.out.far (b' := d) (o := 1) (u := .int .i64 (hi : Int)) (by omega))
    have HN5 := hide (HN4.out.frm (frm_setCell w4 ⟨d, 1, none⟩ (.int .i64 (hi : Int))) (by show ¬ w3.heap.size = d; have := HZ3.out; omega) (by show ¬ g = d; exact H0.out.ne.1))
    clear c1 f1
    generalize w4.setCell ⟨d, 1, none⟩ (.int .i64 (hi : Int)) = W5 at *
    refine Calls.mono (rnone_any W5) ?_
    rintro e w6 ⟨rfl, hb⟩
    have HT6 := hide (HT5.out.below hb)
    have H6 := hide (HMV.out.below hb)
    have HN6 := hide (HN5.out.below hb)
    have HF6 := hide (HF.out.trans (Frm.ofBelow (S := fun _ => False) hb) (fun j _ t => t.elim))
    have t0 := HT6.out.c0
    have t1 := HT6.out.c1
    have f0 := HT6.out.f0
    have f1 := HT6.out.f1
    clear hb
    unfold rerr
    go_wp2
    have q0 := (HT6.out.set (.int .i64 0) (.int .i64 (-1))).c0
    have q1 := (HT6.out.set (.int .i64 0) (.int .i64 (-1))).c1
    have HW := hide (frm_two (u := .int .i64 0) (v := .int .i64 (-1)) HF6.out (Nat.le_refl _))
    have HD6 := hide (H6.out.two (b := w.heap.size) (u := .int .i64 0) (v := .int .i64 (-1)) (by omega) (by have := H0.out.ne.2; omega))
    have HN7 := hide (HN6.out.two (b := w.heap.size) (u := .int .i64 0) (v := .int .i64 (-1)) (by have := HZ3.out; omega) (by have := H0.out.ne.2; omega))
    (try simp only [Exit.inBlock, Exit.then])
    refine bodyPost_ret (v := .tuple #[.int .i64 (t : Int), .pointer (some ⟨w3.heap.size, 0, none⟩), rerr 0 (-1)]) (by simp [results, Tryd.results85, go_sem, q0, q1]; rfl) rfl ?_
    exact ⟨w3.heap.size, ⟨rfl, HD6.out, HW.out⟩, by have := HZ3.out; omega, HN7.out⟩
end Go.Proofs.YtohoncgkekiihaaDoor
