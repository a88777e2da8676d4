/-
  The document's cursor: Raw.
-/
import Derived.Test.YtohoncgkekiihaaDoorRcRead
namespace Go.Proofs.YtohoncgkekiihaaDoor
open Go.RowKit FerryCrc
set_option linter.unusedVariables false
set_option linter.unusedSimpArgs false

/-- append of bytes to a slice of one's own, as a step of a region whose order is drawn. -/
theorem step_app {w : World} {ops : Array Oper} {o : Oper} {act : Act} {K : Act → World → Prop} {Q : Exit → Act → World → Prop} {EE : Prop} (hgd : o.guard = none) (s x : Operand)
    (ho : o.op = .call { callee := .builtin .append, args := #[s, x], argTypes := #[23, 23] })
    (base : Nat) (v : Value) (xs : List Nat) (hs : act.eval s = v) (hown : Own w base v xs)
    (a : Option Addr) (m c : Nat) (l : List Nat) (hx : act.eval x = .slice a m c) (hb : Bts w a m c l)
    (h63 : xs.length + m ≤ 140737488355328) (hbase : base ≤ w.heap.size)
    (h : ∀ v' w', Own w' base v' (xs ++ l) → Frm (fun k => v.ownBlock = some k) w w' → (∀ k, v'.ownBlock = some k → v.ownBlock = some k ∨ w.heap.size ≤ k) → K (act.put o.dst v') w') :
    if Region.wanted o (yielded ops act.tmps) = true then Oper.wp Tryd.prog o act w K Q else EE := by
  by_cases hm : m = 0
  · subst hm
    obtain rfl : l = [] := List.length_eq_zero_iff.1 hb.size
    obtain ⟨i0, hi, hz0, hz1, hz2⟩ := info_parts info8
    have hw : Region.wanted o (yielded ops act.tmps) = true := by simp [Region.wanted, hgd]
    rw [if_pos hw]
    have hst := hown
    rcases hown.2 with ⟨e, hn⟩ | ⟨g, cap, cur, e, hg, hh, hnc, _⟩
    · have hl : xs.length = 0 := hn
      have hrun := run_append_empty (P := Tryd.prog) w 23 o.type 5 i0 Tryd.underlying23 hi none a 0 0 c (Nat.le_refl _)
      have hK := h v w (by rw [List.append_nil]; exact hst) (Frm.refl _ _) (fun k hk => .inl hk)
      rw [e] at hs hK
      unfold Oper.wp
      simp [execOp, ho, resolve, invoke, builtin, hs, hx, hrun, Result.andThen]
      exact hK
    · have hrun := run_append_empty (P := Tryd.prog) w 23 o.type 5 i0 Tryd.underlying23 hi (some ⟨g, 0, none⟩) a xs.length cap c hnc
      have hK := h v w (by rw [List.append_nil]; exact hst) (Frm.refl _ _) (fun k hk => .inl hk)
      rw [e] at hs hK
      unfold Oper.wp
      simp [execOp, ho, resolve, invoke, builtin, hs, hx, hrun, Result.andThen]
      exact hK
  · match a, hx, hb with
    | none, hx, hb => exact absurd (hb.null rfl).1 hm
    | some ad, hx, hb => exact step_lie hgd s x ho base v xs hs hown ad m c l hx hb (by omega) h63 hbase h

set_option maxRecDepth 100000 in
set_option maxHeartbeats 400000 in
theorem rraw_neg (d g len cap p bd : Nat) (L : List Nat) (n : Int) (w : World) (h : Doc w d g len cap p bd L) (hn : n < 0) :
    Calls Tryd.prog 57 #[.pointer (some ⟨d, 0, none⟩), .int .i64 n] w fun e w' => DAns w d g len cap bd L (.slice none 0 0) 12 (-1) p e w' := by
  have H0 := hide h
  clear h
  go_enter Tryd.func57, Tryd.ntmps57
  go_wp2
  (try simp only [Exit.inBlock, Exit.then])
  refine bodyPost_ret (v := .tuple #[.slice none 0 0, rerr 12 (-1)]) (by simp [results, Tryd.results57, go_sem]; rfl) rfl ?_
  have HW := hide ((Below.refl w.heap.size w).alloc (Nat.le_refl _) (.cells #[.int .i64 12, .int .i64 (-1)] 31))
  exact ⟨rfl, H0.out.below HW.out, Frm.ofBelow HW.out⟩

set_option maxRecDepth 100000 in
set_option maxHeartbeats 400000 in
theorem rraw_short (d g len cap p bd : Nat) (L : List Nat) (n : Nat) (w : World) (h : Doc w d g len cap p bd L) (hs : bd - p < n) :
    Calls Tryd.prog 57 #[.pointer (some ⟨d, 0, none⟩), .int .i64 (n : Int)] w fun e w' => DAns w d g len cap bd L (.slice none 0 0) 1 (p : Int) p e w' := by
  have H0 := hide h
  have HT := hide (two_alloc w (.int .i64 0) (.int .i64 0) 31)
  have HB : Hid (Below w.heap.size w (w.alloc (.cells #[.int .i64 0, .int .i64 0] 31))) := (Below.refl _ _).alloc (Nat.le_refl _) _
  have H := hide (h.below HB.out)
  have HC := hide (rleft_any d g len cap p bd L _ H.out)
  have hlt : ((bd - p : Nat) : Int) < (n : Int) := by omega
  have hlt2 : (bd - p : Nat) < n := hs
  have hn0 : ¬ (n : Int) < 0 := by omega
  generalize bd - p = q at *
  clear h hs
  go_enter Tryd.func57, Tryd.ntmps57
  go_wp2_with fail
  refine Calls.mono HC.out ?_
  rintro e w1 ⟨rfl, hb⟩
  have HT1 := hide (HT.out.below hb)
  have H1 := hide (H.out.below hb)
  have HB1 := hide (chain HB.out hb)
  have c1 := H1.out.c1
  have t0 := HT1.out.c0
  have t1 := HT1.out.c1
  have f0 := HT1.out.f0
  have f1 := HT1.out.f1
  clear hb
  go_wp2
  go_region
  all_goals go_wp2
  all_goals
    have q0 := (HT1.out.set (.int .i64 1) (.int .i64 (p : Int))).c0
    have q1 := (HT1.out.set (.int .i64 1) (.int .i64 (p : Int))).c1
    have HW := hide ((bel_two (u := .int .i64 1) (v := .int .i64 (p : Int)) HB1.out (Nat.le_refl _)).drew)
    (try simp only [Exit.inBlock, Exit.then])
    refine bodyPost_ret (v := .tuple #[.slice none 0 0, rerr 1 (p : Int)]) (by simp [results, Tryd.results57, go_sem, q0, q1]; rfl) rfl ?_
    exact ⟨rfl, H0.out.below HW.out, Frm.ofBelow HW.out⟩

/-- The bytes that a slice of the document's bytes shows. -/
theorem Doc.part {w : World} {d g len cap p bd : Nat} {L : List Nat} (h : Doc w d g len cap p bd L) (n : Nat) (hn : p + n ≤ len) : Bts w (some ⟨g, p, none⟩) n (cap - p) (cut L p n) := by
  have := (h.bts.drop p (by omega)).take n (by omega)
  rw [Nat.zero_add] at this
  exact this

set_option maxRecDepth 100000 in
set_option maxHeartbeats 800000 in
theorem rraw_ok (d g len cap p bd : Nat) (L : List Nat) (n : Nat) (w : World) (h : Doc w d g len cap p bd L) (hs : n ≤ bd - p) :
    Calls Tryd.prog 57 #[.pointer (some ⟨d, 0, none⟩), .int .i64 (n : Int)] w fun e w' => ∃ v, DAns w d g len cap bd L v 0 (-1) (p + n) e w' ∧ Own w' w.heap.size v (cut L p n) := by
  have H0 := hide h
  have HT := hide (two_alloc w (.int .i64 0) (.int .i64 0) 31)
  have HB : Hid (Below w.heap.size w (w.alloc (.cells #[.int .i64 0, .int .i64 0] 31))) := (Below.refl _ _).alloc (Nat.le_refl _) _
  have H := hide (h.below HB.out)
  have HC := hide (rleft_any d g len cap p bd L _ H.out)
  have hq := h.le
  have hq2 := h.most
  have hq3 := h.bts.most
  have hq4 := h.bts.fit
  have hdl : d < w.heap.size := h.lt
  have hlt : ¬ ((bd - p : Nat) : Int) < (n : Int) := by omega
  have hlt2 : ¬ (bd - p : Nat) < n := by omega
  have hn0 : ¬ (n : Int) < 0 := by omega
  obtain ⟨hi, hhi⟩ : ∃ hi, p + n = hi := ⟨_, rfl⟩
  rw [hhi]
  have hpb : hi ≤ bd := by omega
  generalize bd - p = q at *
  have e3 : (p : Int) + (n : Int) = (hi : Int) := by omega
  have hwh : IntKind.i64.wrap (hi : Int) = (hi : Int) := by rw [IntKind.wrap_i64]; omega
  have i1 : (0 : Int) ≤ (p : Int) := by omega
  have i2 : (p : Int) ≤ (hi : Int) := by omega
  have i3 : (hi : Int) ≤ (cap : Int) := by omega
  have i4 : (0 : Int) ≤ (hi : Int) := by omega
  have h5 : p ≤ hi := by omega
  have h6 : hi ≤ cap := by omega
  have h7 : hi - p = n := by omega
  have HI := hide hhi
  have HLL : Hid (([] : List Nat).length + n ≤ 140737488355328) := by unfold Hid; simp; omega
  clear h hs hhi
  by_cases hp : p < cap
  · have hcap : ¬ cap = p := by omega
    have hcap2 : ¬ p = cap := by omega
    go_enter Tryd.func57, Tryd.ntmps57
    go_wp2_with fail
    refine Calls.mono HC.out ?_
    rintro e w1 ⟨rfl, hb⟩
    have HT1 := hide (HT.out.below hb)
    have H1 := hide (H.out.below hb)
    have HB1 := hide (chain HB.out hb)
    have HD := hide (H1.out.part n (by have := HI.out; omega))
    have c0 := H1.out.c0
    have c1 := H1.out.c1
    have HZ : Hid (w.heap.size < w1.heap.size) := by unfold Hid; exact Nat.lt_of_lt_of_le (by simp) hb.size
    clear hb
    go_wp2_with fail
    have HA1 : Hid (Below w1.heap.size w1 (w1.drew.alloc (.cells #[] 5))) := (Below.refl _ _).drew.alloc (Nat.le_refl _) _
    go_region_held3 (fun wz => wz.cell? ⟨d, 0, none⟩ = some (.slice (some ⟨g, 0, none⟩) len cap) ∧ wz.cell? ⟨d, 1, none⟩ = some (.int .i64 (p : Int))) (first | exact ⟨c0, c1⟩ | exact ⟨cell_below c0 HA1.out, cell_below c1 HA1.out⟩ | exact hold2) (first | (refine step_app rfl (.tmp 19) (.tmp 34) rfl w1.heap.size (.slice (some ⟨w1.heap.size, 0, none⟩) 0 0) [] rfl (own_empty w1.drew) _ n _ (cut L p n) rfl (HD.out.below HA1.out) HLL.out HA1.out.size ?_; intro v2 w2 ho hf hq; have hb2 : Below w1.heap.size w1 w2 := HA1.out.trans (hf.below HA1.out.size (fun k e => by have e : w1.heap.size = k := (by simpa [Value.ownBlock] using e); omega)); have hold2 : w2.cell? ⟨d, 0, none⟩ = some (.slice (some ⟨g, 0, none⟩) len cap) ∧ w2.cell? ⟨d, 1, none⟩ = some (.int .i64 (p : Int)) := ⟨cell_below c0 hb2, cell_below c1 hb2⟩; have HO2 := hide ho; have HB2 := hide hb2; clear ho hf hq hb2))
    have H2 := hide (H1.out.below HB2.out)
    have HT2 := hide (HT1.out.below HB2.out)
    have HB3 := hide (chain HB1.out HB2.out)
    clear c0 c1
    have c1 := H2.out.c1
    have f1 := H2.out.f1
    go_wp2_with fail
    have HMV := hide (H2.out.move (q := hi) hpb)
    have HF := hide ((Frm.ofBelow (S := fun j => j = d) HB3.out).trans (frm_setCell w2 ⟨d, 1, none⟩ (.int .i64 (hi : Int))) (fun j _ t => t))
    have HT3 := hide (HT2.out.far (b' := d) (o := 1) (u := .int .i64 (hi : Int)) (by omega))
    have HO3 := hide (HO2.out.frm (frm_setCell w2 ⟨d, 1, none⟩ (.int .i64 (hi : Int))) (fun k hk (e : k = d) => by have := (World.ownsRow.lt HO2.out k hk).1; have := HZ.out; omega))
    clear c1 f1
    generalize w2.setCell ⟨d, 1, none⟩ (.int .i64 (hi : Int)) = W3 at *
    refine Calls.mono (rnone_any W3) ?_
    rintro e w4 ⟨rfl, hb⟩
    have HT4 := hide (HT3.out.below hb)
    have H4 := hide (HMV.out.below hb)
    have HF4 := hide (HF.out.trans (Frm.ofBelow (S := fun _ => False) hb) (fun j _ t => t.elim))
    have HO4 := hide (HO3.out.frm (S := fun _ => False) (Frm.ofBelow hb) (fun _ _ h => h))
    have t0 := HT4.out.c0
    have t1 := HT4.out.c1
    have f0 := HT4.out.f0
    have f1 := HT4.out.f1
    clear hb
    unfold rerr
    go_wp2
    have q0 := (HT4.out.set (.int .i64 0) (.int .i64 (-1))).c0
    have q1 := (HT4.out.set (.int .i64 0) (.int .i64 (-1))).c1
    have HW := hide (frm_two (u := .int .i64 0) (v := .int .i64 (-1)) HF4.out (Nat.le_refl _))
    have HD4 := hide (H4.out.two (b := w.heap.size) (u := .int .i64 0) (v := .int .i64 (-1)) (by omega) (by have := H0.out.ne.2; omega))
    have hne : ∀ k, v2.ownBlock = some k → ¬ k = w.heap.size := fun k hk => by have := (World.ownsRow.lt HO2.out k hk).1; have := HZ.out; omega
    have HO5 := hide ((HO4.out.frm (frm_setCell w4 ⟨w.heap.size, 0, none⟩ (.int .i64 0)) (fun k hk (e : k = w.heap.size) => hne k hk e)).frm (frm_setCell _ ⟨w.heap.size, 1, none⟩ (.int .i64 (-1))) (fun k hk (e : k = w.heap.size) => hne k hk e))
    (try simp only [Exit.inBlock, Exit.then])
    refine bodyPost_ret (v := .tuple #[v2, rerr 0 (-1)]) (by simp [results, Tryd.results57, go_sem, q0, q1]; rfl) rfl ?_
    refine ⟨v2, ⟨rfl, HD4.out, HW.out⟩, ?_⟩
    have := HO5.out
    rw [List.nil_append] at this
    exact this.wk (by have := HZ.out; omega)
  · obtain rfl : n = 0 := by have := HI.out; omega
    obtain rfl : p = hi := by have := HI.out; omega
    obtain rfl : p = cap := by omega
    obtain rfl : p = len := by omega
    go_enter Tryd.func57, Tryd.ntmps57
    go_wp2_with fail
    refine Calls.mono HC.out ?_
    rintro e w1 ⟨rfl, hb⟩
    have HT1 := hide (HT.out.below hb)
    have H1 := hide (H.out.below hb)
    have HB1 := hide (chain HB.out hb)
    have HD := hide (fun (a : Option Addr) (wx : World) => nil_bts wx a L p)
    have c0 := H1.out.c0
    have c1 := H1.out.c1
    have HZ : Hid (w.heap.size < w1.heap.size) := by unfold Hid; exact Nat.lt_of_lt_of_le (by simp) hb.size
    clear hb
    go_wp2_with fail
    have HA1 : Hid (Below w1.heap.size w1 (w1.drew.alloc (.cells #[] 5))) := (Below.refl _ _).drew.alloc (Nat.le_refl _) _
    go_region_held3 (fun wz => wz.cell? ⟨d, 0, none⟩ = some (.slice (some ⟨g, 0, none⟩) p p) ∧ wz.cell? ⟨d, 1, none⟩ = some (.int .i64 (p : Int))) (first | exact ⟨c0, c1⟩ | exact ⟨cell_below c0 HA1.out, cell_below c1 HA1.out⟩ | exact hold2) (first | (refine step_app rfl (.tmp 19) (.tmp 34) rfl w1.heap.size (.slice (some ⟨w1.heap.size, 0, none⟩) 0 0) [] rfl (own_empty w1.drew) _ 0 _ (cut L p 0) rfl (HD.out _ _) HLL.out HA1.out.size ?_; intro v2 w2 ho hf hq; have hb2 : Below w1.heap.size w1 w2 := HA1.out.trans (hf.below HA1.out.size (fun k e => by have e : w1.heap.size = k := (by simpa [Value.ownBlock] using e); omega)); have hold2 : w2.cell? ⟨d, 0, none⟩ = some (.slice (some ⟨g, 0, none⟩) p p) ∧ w2.cell? ⟨d, 1, none⟩ = some (.int .i64 (p : Int)) := ⟨cell_below c0 hb2, cell_below c1 hb2⟩; have HO2 := hide ho; have HB2 := hide hb2; clear ho hf hq hb2))
    have H2 := hide (H1.out.below HB2.out)
    have HT2 := hide (HT1.out.below HB2.out)
    have HB3 := hide (chain HB1.out HB2.out)
    clear c0 c1
    have c1 := H2.out.c1
    have f1 := H2.out.f1
    go_wp2_with fail
    have HMV := hide (H2.out.move (q := p) hpb)
    have HF := hide ((Frm.ofBelow (S := fun j => j = d) HB3.out).trans (frm_setCell w2 ⟨d, 1, none⟩ (.int .i64 (p : Int))) (fun j _ t => t))
    have HT3 := hide (HT2.out.far (b' := d) (o := 1) (u := .int .i64 (p : Int)) (by omega))
    have HO3 := hide (HO2.out.frm (frm_setCell w2 ⟨d, 1, none⟩ (.int .i64 (p : Int))) (fun k hk (e : k = d) => by have := (World.ownsRow.lt HO2.out k hk).1; have := HZ.out; omega))
    clear c1 f1
    generalize w2.setCell ⟨d, 1, none⟩ (.int .i64 (p : Int)) = W3 at *
    refine Calls.mono (rnone_any W3) ?_
    rintro e w4 ⟨rfl, hb⟩
    have HT4 := hide (HT3.out.below hb)
    have H4 := hide (HMV.out.below hb)
    have HF4 := hide (HF.out.trans (Frm.ofBelow (S := fun _ => False) hb) (fun j _ t => t.elim))
    have HO4 := hide (HO3.out.frm (S := fun _ => False) (Frm.ofBelow hb) (fun _ _ h => h))
    have t0 := HT4.out.c0
    have t1 := HT4.out.c1
    have f0 := HT4.out.f0
    have f1 := HT4.out.f1
    clear hb
    unfold rerr
    go_wp2
    have q0 := (HT4.out.set (.int .i64 0) (.int .i64 (-1))).c0
    have q1 := (HT4.out.set (.int .i64 0) (.int .i64 (-1))).c1
    have HW := hide (frm_two (u := .int .i64 0) (v := .int .i64 (-1)) HF4.out (Nat.le_refl _))
    have HD4 := hide (H4.out.two (b := w.heap.size) (u := .int .i64 0) (v := .int .i64 (-1)) (by omega) (by have := H0.out.ne.2; omega))
    have hne : ∀ k, v2.ownBlock = some k → ¬ k = w.heap.size := fun k hk => by have := (World.ownsRow.lt HO2.out k hk).1; have := HZ.out; omega
    have HO5 := hide ((HO4.out.frm (frm_setCell w4 ⟨w.heap.size, 0, none⟩ (.int .i64 0)) (fun k hk (e : k = w.heap.size) => hne k hk e)).frm (frm_setCell _ ⟨w.heap.size, 1, none⟩ (.int .i64 (-1))) (fun k hk (e : k = w.heap.size) => hne k hk e))
    (try simp only [Exit.inBlock, Exit.then])
    refine bodyPost_ret (v := .tuple #[v2, rerr 0 (-1)]) (by simp [results, Tryd.results57, go_sem, q0, q1]; rfl) rfl ?_
    refine ⟨v2, ⟨rfl, HD4.out, HW.out⟩, ?_⟩
    have := HO5.out
    rw [List.nil_append] at this
    exact this.wk (by have := HZ.out; omega)
end Go.Proofs.YtohoncgkekiihaaDoor
