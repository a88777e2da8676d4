/-
  Lists of the document's records of the call's own; the document's cursor over bytes that are handed in.
  The document's Split.
  Expect on either side, whatever tags are asked for.
  The document's Expect, whatever tags are asked for.
  The document's digits: digit, Hex, Unhex.
  The document's Join, of whatever records.
  append of whatever numbers to a list that was made empty, as a step of a statement whose order Go leaves open.
  Both sides' Split and Unhex held against one another.
-/
import Derived.Test.YtohoncgkekiihaaDoorWtShow
import Derived.Test.YtohoncgkekiihaaDoorRdBoth
import Derived.Test.YtohoncgkekiihaaDoorWtMath
import Derived.Test.YtohoncgkekiihaaDoorRcRaw
import Derived.Deep.RegionHeld3
import Derived.Test.YtohoncgkekiihaaDoorWwDoc
import Derived.Test.YtohoncgkekiihaaDoorWJoinAll
import Derived.Test.YtohoncgkekiihaaDoorWtTurn
namespace Go.Proofs.YtohoncgkekiihaaDoor
open Go.RowKit FerryCrc
set_option linter.unusedVariables false
set_option linter.unusedSimpArgs false

theorem infoRecD : ∃ i z, Tryd.prog.info? 79 = some i ∧ i.zero = some z ∧ i.size = 2 ∧ i.bytes = 32 ∧ z.cells.size = 2 := by
  have h : (Tryd.prog.info? 79).map (fun i => (i.size, i.bytes, i.zero.map (·.cells.size))) = some (2, 32, some 2) := by kernel_rfl
  cases hi : Tryd.prog.info? 79 with
  | none => simp [hi] at h
  | some i =>
    simp only [hi, Option.map_some, Option.some.injEq, Prod.mk.injEq] at h
    obtain ⟨h1, h2, h3⟩ := h
    cases hz : i.zero with
    | none => simp [hz] at h3
    | some z => exact ⟨i, z, rfl, hz, h1, h2, by simpa [hz] using h3⟩
/-- A list of the document's records of the call's own. -/
structure DwOwn (w : World) (base : Nat) (v : Value) (rs : List JW) : Prop where
  row : w.ownsRow base 79 2 v rs.length (rs.flatMap JW.cells)
  ne : ∀ r ∈ rs, ∀ k, r.v.ownBlock = some k → v.ownBlock ≠ some k
  own : ∀ r ∈ rs, Own w base r.v r.l
theorem DwOwn.frm {S : Nat → Prop} {w w' : World} {base : Nat} {v : Value} {rs : List JW} (h : DwOwn w base v rs) (hf : Frm S w w') (hS : ∀ k, base ≤ k → ¬ S k) : DwOwn w' base v rs := by
  refine ⟨⟨h.row.1, ?_⟩, h.ne, fun r hr => (h.own r hr).frm hf (fun k hk => hS k (World.ownsRow.lt (h.own r hr) k hk).1)⟩
  rcases h.row.2 with e | ⟨g, cap, cur, e, hg, hh, r⟩
  · exact .inl e
  · refine .inr ⟨g, cap, cur, e, hg, ?_, r⟩
    rw [hf.block g (Array.getElem?_eq_some_iff.1 hh).1 (hS g hg)]
    exact hh
theorem DwOwn.below {w w' : World} {base : Nat} {v : Value} {rs : List JW} (h : DwOwn w base v rs) (hb : Below w.heap.size w w') : DwOwn w' base v rs :=
  h.frm (S := fun _ => False) (Frm.ofBelow hb) (fun _ _ h => h)
theorem DwOwn.wk {w : World} {base base' : Nat} {v : Value} {rs : List JW} (h : DwOwn w base v rs) (hb : base' ≤ base) : DwOwn w base' v rs :=
  ⟨ownsRow_weaken h.row hb, h.ne, fun r hr => (h.own r hr).wk hb⟩
theorem dw_nil (w : World) (base : Nat) : DwOwn w base (.slice none 0 0) [] := ⟨⟨rfl, .inl ⟨rfl, rfl⟩⟩, fun r hr => by simp at hr, fun r hr => by simp at hr⟩
/-- The same as one step of a statement whose order Go leaves open. -/
theorem step_dw {w : World} {ops : Array Oper} {o : Oper} {act : Act} {K : Act → World → Prop} {Q : Exit → Act → World → Prop} {EE : Prop} (hgd : o.guard = none) (s x : Operand)
    (ho : o.op = .call { callee := .builtin .append, args := #[s, x], argTypes := #[22, 22] })
    (base : Nat) (v : Value) (rs : List JW) (hs : act.eval s = v) (hown : DwOwn w base v rs)
    (gx : Nat) (r : JW) (hx : act.eval x = .slice (some ⟨gx, 0, none⟩) 1 1) (x0 : w.cell? ⟨gx, 0, none⟩ = some (.int .i64 r.tag)) (x1 : w.cell? ⟨gx, 1, none⟩ = some r.v)
    (hr : Own w base r.v r.l) (hn : ∀ k, r.v.ownBlock = some k → v.ownBlock ≠ some k) (h63 : rs.length + 1 ≤ 4398046511104) (hbase : base ≤ w.heap.size)
    (h : ∀ v' w', DwOwn w' base v' (rs ++ [r]) → Frm (fun k => v.ownBlock = some k) w w' → K (act.put o.dst v') w') :
    if Region.wanted o (yielded ops act.tmps) = true then Oper.wp Tryd.prog o act w K Q else EE := by
  obtain ⟨i, z, hi, hz, hsz, hby, hzs⟩ := infoRecD
  refine step_append_lies w hgd s x 22 ho base 79 i z 2 32 Tryd.underlying22 hi hz hsz hby hzs (by decide) v rs.length (rs.flatMap JW.cells) hs hown.row ⟨gx, 0, none⟩ 1 1 r.cells hx rfl ?_ ?_ (by decide) (by unfold maxLen; omega) (by omega) hbase _ rfl ?_
  · intro j u hu
    rw [add_none, Nat.zero_add]
    match j, hu with
    | 0, hu => simp only [JW.cells, List.getElem?_cons_zero, Option.some.injEq] at hu; rw [← hu]; exact x0
    | 1, hu => simp only [JW.cells, List.getElem?_cons_succ, List.getElem?_cons_zero, Option.some.injEq] at hu; rw [← hu]; exact x1
    | j + 2, hu => simp [JW.cells] at hu
  · intro u hu
    rcases List.mem_cons.1 hu with rfl | hu
    · rfl
    · rw [List.mem_singleton.1 hu]
      rfl
  · intro g cap w' h1 h2 h3 h4
    have hf := frm_grown h2
    refine h _ w' ⟨?_, ?_, ?_⟩ hf
    · rw [List.length_append, List.flatMap_append]
      simpa using h1
    · intro q hq k hk e
      simp only [Value.ownBlock, Option.some.injEq] at e
      subst e
      rcases List.mem_append.1 hq with hq | hq
      · rcases h3 with h3 | h3
        · exact hown.ne q hq g hk h3
        · have := (World.ownsRow.lt (hown.own q hq) g hk).2
          omega
      · obtain rfl := List.mem_singleton.1 hq
        rcases h3 with h3 | h3
        · exact hn g hk h3
        · have := (World.ownsRow.lt hr g hk).2
          omega
    · intro q hq
      rcases List.mem_append.1 hq with hq | hq
      · exact (hown.own q hq).frm hf (fun k hk e => hown.ne q hq k hk e)
      · obtain rfl := List.mem_singleton.1 hq
        exact hr.frm hf (fun k hk e => hn k hk e)

theorem DwOwn.shows {w : World} {base : Nat} {v : Value} {rs : List JW} (h : DwOwn w base v rs) (hm : ∀ r ∈ rs, r.l.length ≤ 140737488355328 ∧ ∀ c ∈ r.l, c < 256) :
    ∃ a c, v = .slice a rs.length c ∧ Rcs JW.cells 2 w a rs.length c rs ∧ ∀ r ∈ rs, Bts w r.a r.n r.c r.l := by
  obtain ⟨a, c, e, hr⟩ := RLk.row (.inl h.row)
  refine ⟨a, c, e, ⟨rfl, hr⟩, fun r hr => ?_⟩
  obtain ⟨a', c', e', hb⟩ := (h.own r hr).shown (hm r hr).1 (hm r hr).2
  unfold JW.v at e'
  simp only [Value.slice.injEq] at e'
  obtain ⟨e1, e2, e3⟩ := e'
  rw [e1, e2, e3]
  exact hb
theorem own_some {w : World} {base n : Nat} {v : Value} {l : List Nat} (h : Own w base v l) (hl : l.length = n) (h0 : 0 < n) : ∃ g c, v = .slice (some ⟨g, 0, none⟩) n c ∧ base ≤ g ∧ n ≤ c := by
  subst hl
  rcases h.2 with ⟨e, hn⟩ | ⟨g, cap, cur, e, hg, _, hnc, _⟩
  · omega
  · exact ⟨g, cap, e, hg, hnc⟩
/-- append to a list that was made empty: it lies somewhere, also if nothing came. -/
theorem append_some {w : World} {ops : Array Oper} {rest : List Oper} {o : Oper} {act : Act} {Q : Exit → Act → World → Prop} (hgd : o.guard = none) (s x : Operand)
    (ho : o.op = .call { callee := .builtin .append, args := #[s, x], argTypes := #[23, 23] })
    (hs : act.eval s = .slice (some ⟨w.heap.size, 0, none⟩) 0 0)
    (a : Option Addr) (m c : Nat) (l : List Nat) (hx : act.eval x = .slice a m c) (hb : Bts w a m c l)
    (h : ∀ g1 c1 w', w.heap.size ≤ g1 → g1 < w'.heap.size → Bts w' (some ⟨g1, 0, none⟩) m c1 l → Below w.heap.size w w' → wpList Tryd.prog ops Q rest (act.put o.dst (.slice (some ⟨g1, 0, none⟩) m c1)) w') : wpList Tryd.prog ops Q (o :: rest) act (w.alloc (.cells #[] 5)) := by
  have hb0 : Below w.heap.size w (w.alloc (.cells #[] 5)) := (Below.refl _ _).alloc (Nat.le_refl _) _
  by_cases hm : m = 0
  · subst hm
    obtain ⟨i0, hi, hz0, hz1, hz2⟩ := info_parts info8
    refine wpList_append_empty hgd s x 23 ho 5 i0 Tryd.underlying23 hi (some ⟨w.heap.size, 0, none⟩) a 0 0 c (Nat.le_refl _) hs hx ?_
    obtain rfl : l = [] := List.length_eq_zero_iff.1 hb.size
    exact h w.heap.size 0 _ (Nat.le_refl _) (by simp) ⟨rfl, by decide, by decide, fun c hc => by simp at hc, fun e => by simp at e, fun k hk => by omega⟩ hb0
  · refine append_lie hgd s x ho w.heap.size _ [] hs (own_empty w) a m c l hx (hb.below hb0) (by simp; exact hb.most) hb0.size ?_
    intro v' w' h1 h2 h3
    rw [List.nil_append] at h1
    obtain ⟨g1, c1, rfl, hg, hc⟩ := own_some h1 hb.size (by omega)
    exact h g1 c1 w' hg (World.ownsRow.lt h1 _ rfl).2 (h1.bts hb.size hb.most hb.small) (hb0.trans (h2.below hb0.size (fun k hk => by
      simp only [Value.ownBlock, Option.some.injEq] at hk
      omega)))

set_option maxRecDepth 100000 in
theorem refOpen_doc (a : Option Addr) (len cap : Nat) (l : List Nat) (w : World) (hs : Bts w a len cap l) :
    Calls Tryd.prog 46 #[.slice a len cap] w fun e w' => ∃ D H cp, w.heap.size ≤ D ∧ w.heap.size ≤ H ∧ e = .returned (.pointer (some ⟨D, 0, none⟩)) ∧ Doc w' D H len cp 0 len l ∧ Below w.heap.size w w' := by
  have HS := hide hs
  clear hs
  go_enter Tryd.func46, Tryd.ntmps46
  go_wp2_with (refine append_some rfl (.tmp 3) (.tmp 4) rfl rfl a len cap l rfl HS.out ?_; intro g3 c3 w3 hg3 hl3 hx hb; have HB := hide hb; have HX := hide hx; have HG := hide hg3; have HL := hide hl3; clear hx hb hg3 hl3)
  go_ret
  refine ⟨w3.heap.size, g3, c3, HB.out.size, HG.out, rfl, ⟨by rw [World.cell?_alloc_at _ _ _ _ rfl]; rfl, by rw [World.cell?_alloc_at _ _ _ _ rfl]; rfl, by rw [World.cell?_alloc_at _ _ _ _ rfl]; rfl, World.frozen?_alloc_new _ _ _ _, HX.out.below ((Below.refl _ _).alloc (Nat.le_refl _) _), ⟨by have := HL.out; omega, Nat.lt_of_lt_of_le HL.out ((Below.refl _ _).alloc (Nat.le_refl _) _).size⟩, Nat.zero_le _, Nat.le_refl _⟩, HB.out.alloc HB.out.size _⟩


/-- Next of the document's cursor where no record stands. -/
theorem dnext_bad (d g len cap p bd i q : Nat) (L : List Nat) (w : World) (h : Doc w d g len cap p bd L) (hst : Stk L p bd i q) :
    Calls Tryd.prog 47 #[.pointer (some ⟨d, 0, none⟩)] w fun e w' => DRec w d g len cap bd L 0 (.pointer none) i q p e w' := by
  have fin : (∀ w, Doc w d g len cap p bd L → Calls Tryd.prog 85 #[.pointer (some ⟨d, 0, none⟩), .int .i64 0, .bool true] w fun e w' => DRec w d g len cap bd L 0 (.pointer none) i q p e w') → Calls Tryd.prog 47 #[.pointer (some ⟨d, 0, none⟩)] w fun e w' => DRec w d g len cap bd L 0 (.pointer none) i q p e w' := fun hc =>
    Calls.mono (rnext_of d g len cap p bd L 0 i q p none w h (fun w h => rrec_no (hc w h))) (fun e w' ⟨v, h1, h2⟩ => by
      have h2 : v = .pointer none := h2
      rw [h2] at h1
      exact h1)
  rcases hst with ⟨hs, rfl, rfl⟩ | ⟨hs, ht, rfl, rfl⟩ | ⟨hs, h0, hn, rfl, rfl⟩
  · exact fin (fun w h => rrec_short d g len cap q bd L 0 true w h hs)
  · exact fin (fun w h => rrec_tag d g len cap q bd L 0 true 0 w h hs ht (fun x => x.1 rfl))
  · refine fin (fun w h => ?_)
    obtain ⟨t, ht⟩ : ∃ t, L[p]? = some t := ⟨_, List.getElem?_eq_getElem (by have := h.bts.size; have := h.most; omega)⟩
    exact rrec_len d g len cap p bd L 0 true t w h hs ht ⟨fun e => h0 (by rw [ht, e]), fun e => by cases e⟩ hn
/-- Next of the document's cursor where a record stands. -/
theorem dnext_ok (d g len cap p bd t n : Nat) (L : List Nat) (w : World) (h : Doc w d g len cap p bd L) (hr : Rec L p bd t n) :
    Calls Tryd.prog 47 #[.pointer (some ⟨d, 0, none⟩)] w fun e w' => ∃ D, DRec w d g len cap bd L (t : Int) (.pointer (some ⟨D, 0, none⟩)) 0 (-1) (p + 3 + n) e w' ∧ w.heap.size ≤ D ∧ Doc w' D g len cap (p + 3) (p + 3 + n) L := by
  obtain ⟨hs, ht, h0, rfl, hn⟩ := hr
  have := rnext_of d g len cap p bd L t 0 (-1) _ _ w h (fun w h => rrec_yes h hs ht ⟨h0, fun e => by cases e⟩ hn)
  exact Calls.mono this (fun e w' ⟨v, h1, D, h2, h3, h4⟩ => ⟨D, by rw [← h2]; exact h1, h3, h4⟩)
end Go.Proofs.YtohoncgkekiihaaDoor
namespace Go.Proofs.YtohoncgkekiihaaDoor
open Go.RowKit FerryCrc
set_option linter.unusedVariables false
set_option linter.unusedSimpArgs false

/-- A record's tag and bytes, as the key of what is handed in. -/
def upk (p : Nat × List Nat) : Int × List Nat := ((p.1 : Int), p.2)
theorem Doc.plc {w : World} {d g len cap p bd : Nat} {L : List Nat} (h : Doc w d g len cap p bd L) : plc w d = p := by
  unfold Go.Proofs.YtohoncgkekiihaaDoor.plc
  rw [h.c1]
  rfl
theorem DwOwn.lt0 {w : World} {base : Nat} {v : Value} {rs : List JW} (h : DwOwn w base v rs) (k : Nat) (hk : v.ownBlock = some k) : base ≤ k ∧ k < w.heap.size := World.ownsRow.lt h.row k hk
/-- A part of bytes that were handed in. -/
theorem bts_part {w : World} {b off len cap : Nat} {L : List Nat} (h : Bts w (some ⟨b, off, none⟩) len cap L) (p n : Nat) (hn : p + n ≤ len) : Bts w (some ⟨b, off + p, none⟩) n (cap - p) (cut L p n) :=
  (h.drop p (by omega)).take n (by omega)

set_option maxRecDepth 100000 in
set_option maxHeartbeats 1600000 in
theorem dsplit_any (a : Option Addr) (len cap : Nat) (L : List Nat) (w : World) (hs : Bts w a len cap L) (hm : len ≤ 4398046511000) :
    Calls Tryd.prog 12 #[.slice a len cap] w fun e w' => Below w.heap.size w w' ∧
      ((∃ rs v ps, Pars L len 0 ps len ∧ rs.map JW.key = ps.map upk ∧ e = .returned (.tuple #[v, rerr 0 (-1)]) ∧ DwOwn w' w.heap.size v rs) ∨
       (∃ ps p i q, Pars L len 0 ps p ∧ p < len ∧ Stk L p len i q ∧ e = .returned (.tuple #[.slice none 0 0, rerr (i : Int) (q : Int)]))) := by
  have HS := hide hs
  have HZ := hide hs.size
  have HM := hide hm
  have HT := hide (two_alloc w (.int .i64 0) (.int .i64 0) 31)
  have HB0 : Hid (Below w.heap.size w (w.alloc (.cells #[.int .i64 0, .int .i64 0] 31))) := (Below.refl _ _).alloc (Nat.le_refl _) _
  have HZ0 : Hid (w.heap.size < (w.alloc (.cells #[.int .i64 0, .int .i64 0] 31)).heap.size) := by unfold Hid; simp
  clear hs hm
  go_enter Tryd.func12, Tryd.ntmps12
  go_wp2_with fail
  generalize w.alloc (.cells #[.int .i64 0, .int .i64 0] 31) = W0 at *
  refine Calls.mono (refOpen_doc a len cap L W0 (HS.out.below HB0.out)) ?_
  rintro e w1 ⟨D, H, cp, hD, hH, rfl, hd, hb⟩
  have HD : Hid (w.heap.size < D ∧ w.heap.size < H ∧ D < w1.heap.size ∧ H < w1.heap.size) := by unfold Hid; have := HZ0.out; have := hd.lt; have := hd.ne.2; omega
  have HDoc := hide hd
  have HT1 := hide (HT.out.below hb)
  have HB := hide (chain HB0.out hb)
  clear hd hb hD hH HT HB0 HZ0
  go_wp2_with fail
  go_loopw [5] (fun v wr => ∃ (p : Nat) (rs : List JW) (ps : List (Nat × List Nat)), Hid (Doc wr D H len cp p len L) ∧ Hid (DwOwn wr w1.heap.size v rs) ∧ Hid (rs.map JW.key = ps.map upk) ∧ Hid (Pars L len 0 ps p) ∧ Hid (Two wr w.heap.size (.int .i64 0) (.int .i64 0)) ∧ Hid (w1.heap.size ≤ wr.heap.size) ∧ Hid (Below w.heap.size w wr)) (fun _ wr => len - plc wr D)
  case atStart => exact ⟨0, [], [], HDoc, dw_nil _ _, rfl, rfl, HT1, Nat.le_refl _, HB⟩
  case round =>
    obtain ⟨p, rs, ps, HK, HR, HRK, HP, HTR, HSZ, HBR⟩ := hrel
    have hpl := HK.out.le
    by_cases hp : p = len
    · subst hp
      have HL := hide (rleft_any D H p cp p p L wr HK.out)
      rw [Nat.sub_self] at HL
      go_wp2_with fail
      refine Calls.mono HL.out ?_
      rintro e w2 ⟨rfl, hb2⟩
      have HT2 := hide (HTR.out.below hb2)
      have HR2 := hide (HR.out.below hb2)
      have HB2 := hide (chain HBR.out hb2)
      clear hb2 HL
      go_wp2_with fail
      refine Calls.mono (rnone_any w2) ?_
      rintro e w3 ⟨rfl, hb3⟩
      have HT3 := hide (HT2.out.below hb3)
      have HR3 := hide (HR2.out.below hb3)
      have HB3 := hide (chain HB2.out hb3)
      have t0 := HT3.out.c0
      have t1 := HT3.out.c1
      have f0 := HT3.out.f0
      have f1 := HT3.out.f1
      clear hb3
      unfold rerr
      go_wp2
      have q0 := (HT3.out.set (.int .i64 0) (.int .i64 (-1))).c0
      have q1 := (HT3.out.set (.int .i64 0) (.int .i64 (-1))).c1
      have HR4 := hide ((HR3.out.frm (frm_setCell w3 ⟨w.heap.size, 0, none⟩ (.int .i64 0)) (fun j hj (e : j = w.heap.size) => by have := HD.out; omega)).frm (frm_setCell _ ⟨w.heap.size, 1, none⟩ (.int .i64 (-1))) (fun j hj (e : j = w.heap.size) => by have := HD.out; omega))
      have HW := hide (bel_two (u := .int .i64 0) (v := .int .i64 (-1)) HB3.out (Nat.le_refl _))
      (try simp only [Exit.inBlock, Exit.then])
      refine bodyPost_ret (v := .tuple #[u5, rerr 0 (-1)]) (by simp [results, Tryd.results12, go_sem, q0, q1]; rfl) rfl ?_
      exact ⟨HW.out, .inl ⟨rs, u5, ps, HP.out, HRK.out, rfl, HR4.out.wk (by have := HD.out; omega)⟩⟩
    · have HL := hide (rleft_any D H len cp p len L wr HK.out)
      obtain ⟨q0, hq0⟩ : ∃ q0, len - p = q0 := ⟨_, rfl⟩
      rw [hq0] at HL
      have hq1 : (0 : Int) < (q0 : Int) := by omega
      have hq2 : 0 < q0 := by omega
      have HPL : Hid (p < len) := by unfold Hid; omega
      clear hq0 hp hpl
      go_wp2_with fail
      refine Calls.mono HL.out ?_
      rintro e w2 ⟨rfl, hb2⟩
      have HK2 := hide (HK.out.below hb2)
      have HR2 := hide (HR.out.below hb2)
      have HT2 := hide (HTR.out.below hb2)
      have HB2 := hide (chain HBR.out hb2)
      have HSZ2 : Hid (w1.heap.size ≤ w2.heap.size) := Nat.le_trans HSZ.out hb2.size
      have PLWR : Hid (plc wr D = p) := HK.out.plc
      clear hb2 HL HK HR HTR HBR HSZ
      rcases stk_or_rec (L := L) (p := p) (bd := len) (by rw [HZ.out]; exact Nat.le_refl _) with ⟨i, q, hst⟩ | ⟨t, n, hrec⟩
      · have HST := hide hst
        have hi1 : ((i : Int) != 0) = true := by
          rcases hst with ⟨_, rfl, _⟩ | ⟨_, _, rfl, _⟩ | ⟨_, _, _, rfl, _⟩ <;> decide
        clear hst
        go_wp2_with fail
        refine Calls.mono (dnext_bad D H len cp p len i q L w2 HK2.out HST.out) ?_
        rintro e w3 ⟨rfl, h1, hf⟩
        have HT3 := hide (HT2.out.frm hf (by show ¬ w.heap.size = D; have := HD.out; omega))
        have HB3 := hide (HB2.out.trans (hf.below HB2.out.size (fun j e => by have e : j = D := e; have := HD.out; omega)))
        clear h1 hf
        unfold rerr
        go_wp2_with fail
        have HA4 : Hid (Below w3.heap.size w3 (w3.alloc (.cells #[.int .i64 (i : Int), .int .i64 (q : Int)] 31))) := (Below.refl _ _).alloc (Nat.le_refl _) _
        have HT4 := hide (HT3.out.below HA4.out)
        have HE4 := hide (two_alloc w3 (.int .i64 (i : Int)) (.int .i64 (q : Int)) 31)
        have HB4 := hide (chain HB3.out HA4.out)
        have t0 := HT4.out.c0
        have t1 := HT4.out.c1
        have f0 := HT4.out.f0
        have f1 := HT4.out.f1
        have s0 := HE4.out.c0
        have s1 := HE4.out.c1
        clear HT3 HA4
        generalize w3.alloc (.cells #[.int .i64 (i : Int), .int .i64 (q : Int)] 31) = W4 at *
        go_region
        all_goals go_wp2
        all_goals
          have q0 := (HT4.out.set (.int .i64 (i : Int)) (.int .i64 (q : Int))).c0
          have q1 := (HT4.out.set (.int .i64 (i : Int)) (.int .i64 (q : Int))).c1
          have HW := hide ((bel_two (u := .int .i64 (i : Int)) (v := .int .i64 (q : Int)) HB4.out (Nat.le_refl _)).drew)
          (try simp only [Exit.inBlock, Exit.then])
          refine bodyPost_ret (v := .tuple #[.slice none 0 0, rerr (i : Int) (q : Int)]) (by simp [results, Tryd.results12, go_sem, q0, q1]; rfl) rfl ?_
          exact ⟨HW.out, .inr ⟨ps, p, i, q, HP.out, HPL.out, HST.out, rfl⟩⟩
      · have HREC := hide hrec
        obtain ⟨b, off, hab⟩ : ∃ b off, a = some ⟨b, off, none⟩ := by
          have := HPL.out
          obtain ⟨b, off, e, _⟩ := HS.out.cell 0 (by omega)
          exact ⟨b, off, e⟩
        subst hab
        obtain ⟨lo, hlo⟩ : ∃ lo, p + 3 = lo := ⟨_, rfl⟩
        obtain ⟨hi, hhi⟩ : ∃ hi, lo + n = hi := ⟨_, rfl⟩
        have hfit := HS.out.fit
        have HFT := hide hfit
        have hmost := HS.out.most
        have hsp := hrec.2.2.2.2
        have hsp1 := hrec.1
        have HNX := hide (dnext_ok D H len cp p len t n L w2 HK2.out hrec)
        have HHI : Hid (p + 3 = lo ∧ lo + n = hi ∧ hi ≤ len) := by unfold Hid; omega
        rw [hlo, hhi] at HNX
        have i1 : (0 : Int) ≤ (lo : Int) := by omega
        have i2 : (lo : Int) ≤ (hi : Int) := by omega
        have i3 : (hi : Int) ≤ (cap : Int) := by omega
        have i4 : (0 : Int) ≤ (hi : Int) := by omega
        have h5 : lo ≤ hi := by omega
        have h6 : hi ≤ cap := by omega
        have h7 : hi - lo = n := by omega
        have HLL : Hid (([] : List Nat).length + n ≤ 140737488355328) := by unfold Hid; simp; omega
        have HRL : Hid (rs.length + 1 ≤ 4398046511104) := by
          unfold Hid
          have h1 := pars_le HP.out
          have h2 := congrArg List.length HRK.out
          rw [List.length_map, List.length_map] at h2
          have := HM.out
          omega
        clear hrec hlo hhi hfit hmost hsp hsp1
        go_wp2_with fail
        refine Calls.mono HNX.out ?_
        rintro e w3 ⟨D2, ⟨rfl, h1, hf⟩, hD2, h2⟩
        have HA4 : Hid (Below w3.heap.size w3 (w3.alloc (.cells #[.int .i64 0, .int .i64 (-1)] 31))) := (Below.refl _ _).alloc (Nat.le_refl _) _
        have HT4 := hide ((HT2.out.frm hf (by show ¬ w.heap.size = D; have := HD.out; omega)).below HA4.out)
        have HB4 := hide (chain (HB2.out.trans (hf.below HB2.out.size (fun j e => by have e : j = D := e; have := HD.out; omega))) HA4.out)
        have HK4 := hide (h1.below HA4.out)
        have HI4 := hide (h2.below HA4.out)
        have HR4 := hide ((HR2.out.frm hf (fun j hj (e : j = D) => by have := HD.out; omega)).below HA4.out)
        have HSZ4 : Hid (w1.heap.size ≤ (w3.alloc (.cells #[.int .i64 0, .int .i64 (-1)] 31)).heap.size) := Nat.le_trans (Nat.le_trans HSZ2.out hf.size) HA4.out.size
        have HV : Hid (∀ j, u5.ownBlock = some j → w1.heap.size ≤ j ∧ j < D2) := fun j hj => by have := HR2.out.lt0 j hj; omega
        have c1 := HI4.out.c1
        have c2 := HI4.out.c2
        clear h1 h2 hf HNX hD2
        unfold rerr
        go_wp2_with fail
        clear HA4
        generalize w3.alloc (.cells #[.int .i64 0, .int .i64 (-1)] 31) = W4 at *
        have HBT := hide (HS.out.below HB4.out)
        have HD4 : Hid (Below W4.heap.size W4 W4.drew) := (Below.refl _ _).drew
        have HA6 : Hid (Below W4.heap.size W4 (W4.drew.alloc (.cells #[] 5))) := HD4.out.alloc HD4.out.size _
        have HOE : Hid (Own (W4.drew.alloc (.cells #[] 5)) W4.heap.size (.slice (some ⟨W4.heap.size, 0, none⟩) 0 0) []) := own_empty W4.drew
        have HREL : Hid (∀ (a8 : Option Addr) (n8 c8 : Nat) (v10 : Value) (w10 w9 : World), Below W4.heap.size W4 w9 → DwOwn w10 w1.heap.size v10 (rs ++ [⟨(t : Int), a8, n8, c8, cut L lo n⟩]) → Frm (fun k => u5.ownBlock = some k) w9 w10 →
            ((∃ (p : Nat) (rs : List JW) (ps : List (Nat × List Nat)), Hid (Doc w10 D H len cp p len L) ∧ Hid (DwOwn w10 w1.heap.size v10 rs) ∧ Hid (rs.map JW.key = ps.map upk) ∧ Hid (Pars L len 0 ps p) ∧ Hid (Two w10 w.heap.size (.int .i64 0) (.int .i64 0)) ∧ Hid (w1.heap.size ≤ w10.heap.size) ∧ Hid (Below w.heap.size w w10)) ∧ len - plc w10 D < len - plc wr D)) := fun a8 n8 c8 v10 w10 w9 hb9 ho hf => by
          have hK := (HK4.out.below hb9).frm hf (fun e => by have := HV.out D e; have := HD.out; omega) (fun e => by have := HV.out H e; have := HD.out; omega)
          have hT := (HT4.out.below hb9).frm hf (fun e => by have := HV.out _ e; have := HD.out; omega)
          have hB := (chain HB4.out hb9).trans (hf.below (chain HB4.out hb9).size (fun j e => by have := HV.out j e; have := HD.out; omega))
          refine ⟨⟨hi, _, ps ++ [(t, cut L lo n)], hK, ho, ?_, ?_, hT, Nat.le_trans HSZ4.out (Nat.le_trans hb9.size hf.size), hB⟩, ?_⟩
          · show List.map JW.key (rs ++ _) = _
            rw [List.map_append, List.map_append, HRK.out]
            rfl
          · obtain ⟨g1, g2, g3⟩ := HHI.out
            have := pars_snoc HP.out HREC.out
            rw [g1, g2] at this
            exact this
          · rw [hK.plc, PLWR.out]
            have := HHI.out
            have := HPL.out
            omega
        by_cases hcp : lo < cap
        · have hcap : ¬ cap = lo := by omega
          have hcap2 : ¬ lo = cap := by omega
          have HDP := hide (bts_part HBT.out lo n (by have := HHI.out; omega))
          go_region_held3 (fun wz => wz.cell? ⟨D2, 1, none⟩ = some (.int .i64 (lo : Int)) ∧ wz.cell? ⟨D2, 2, none⟩ = some (.int .i64 (hi : Int))) (first | exact ⟨c1, c2⟩ | exact ⟨cell_below c1 HA6.out, cell_below c2 HA6.out⟩ | exact ⟨cell_below c1 HB8.out, cell_below c2 HB8.out⟩ | exact ⟨cell_below c1 HB9.out, cell_below c2 HB9.out⟩ | exact hold10)
            (first
              | (refine step_lie0 rfl (.tmp 26) (.tmp 36) rfl W4.heap.size (.slice (some ⟨W4.heap.size, 0, none⟩) 0 0) [] (by simp [Act.eval]) HOE.out (some ⟨b, off + lo, none⟩) n (cap - lo) (cut L lo n) (by simp [Act.eval]) (HDP.out.below HA6.out) HLL.out HA6.out.size ?_; intro v8 w8 ho hf; rw [List.nil_append] at ho; have HO8 := hide ho; have HB8 := hide (HA6.out.trans (hf.below HA6.out.size (fun j e => (World.ownsRow.lt HOE.out j e).1))); obtain ⟨a8, n8, c8, rfl⟩ := ho.sl; have HA9 : Hid (Below w8.heap.size w8 (w8.alloc (.cells #[.int .i64 (t : Int), .slice a8 n8 c8] 79))) := (Below.refl _ _).alloc (Nat.le_refl _) _; have HB9 := hide (chain HB8.out HA9.out); clear ho hf)
              | (refine step_dw rfl (.tmp 24) (.tmp 39) rfl w1.heap.size u5 rs (by simp [Act.eval]) (HR4.out.below HB9.out) w8.heap.size ⟨(t : Int), a8, n8, c8, cut L lo n⟩ (by simp [Act.eval]) ((World.cell?_alloc_at _ _ _ _ rfl).trans rfl) ((World.cell?_alloc_at _ _ _ _ rfl).trans rfl) ((HO8.out.frm (S := fun _ => False) (Frm.ofBelow HA9.out) (fun _ _ h => h)).wk HSZ4.out) (fun q hq e => by have h1 := (World.ownsRow.lt HO8.out q hq).1; have h2 := (HR4.out.lt0 q e).2; omega) HRL.out (Nat.le_trans HSZ4.out HB9.out.size) ?_; intro v10 w10 ho hf; have HO10 := hide (HREL.out a8 n8 c8 v10 w10 _ HB9.out ho hf); have hold10 : w10.cell? ⟨D2, 1, none⟩ = some (.int .i64 (lo : Int)) ∧ w10.cell? ⟨D2, 2, none⟩ = some (.int .i64 (hi : Int)) := ⟨hf.cell (cell_below c1 HB9.out) (fun e => by have e : u5.ownBlock = some D2 := e; have := HV.out D2 e; omega), hf.cell (cell_below c2 HB9.out) (fun e => by have e : u5.ownBlock = some D2 := e; have := HV.out D2 e; omega)⟩; clear ho hf))
          rename_i hheld
          clear hheld
          go_wp2
          exact HO10.out
        · obtain rfl : n = 0 := by have := HHI.out; omega
          obtain rfl : lo = hi := by have := HHI.out; omega
          obtain rfl : lo = cap := by omega
          obtain rfl : lo = len := by have := HHI.out; have := HFT.out; omega
          have HDP := hide (fun (a : Option Addr) (wx : World) => nil_bts wx a L lo)
          go_region_held3 (fun wz => wz.cell? ⟨D2, 1, none⟩ = some (.int .i64 (lo : Int)) ∧ wz.cell? ⟨D2, 2, none⟩ = some (.int .i64 (lo : Int))) (first | exact ⟨c1, c2⟩ | exact ⟨cell_below c1 HA6.out, cell_below c2 HA6.out⟩ | exact ⟨cell_below c1 HB8.out, cell_below c2 HB8.out⟩ | exact ⟨cell_below c1 HB9.out, cell_below c2 HB9.out⟩ | exact hold10)
            (first
              | (refine step_lie0 rfl (.tmp 26) (.tmp 36) rfl W4.heap.size (.slice (some ⟨W4.heap.size, 0, none⟩) 0 0) [] (by simp [Act.eval]) HOE.out _ 0 _ (cut L lo 0) rfl (HDP.out _ _) HLL.out HA6.out.size ?_; intro v8 w8 ho hf; rw [List.nil_append] at ho; have HO8 := hide ho; have HB8 := hide (HA6.out.trans (hf.below HA6.out.size (fun j e => (World.ownsRow.lt HOE.out j e).1))); obtain ⟨a8, n8, c8, rfl⟩ := ho.sl; have HA9 : Hid (Below w8.heap.size w8 (w8.alloc (.cells #[.int .i64 (t : Int), .slice a8 n8 c8] 79))) := (Below.refl _ _).alloc (Nat.le_refl _) _; have HB9 := hide (chain HB8.out HA9.out); clear ho hf)
              | (refine step_dw rfl (.tmp 24) (.tmp 39) rfl w1.heap.size u5 rs (by simp [Act.eval]) (HR4.out.below HB9.out) w8.heap.size ⟨(t : Int), a8, n8, c8, cut L lo 0⟩ (by simp [Act.eval]) ((World.cell?_alloc_at _ _ _ _ rfl).trans rfl) ((World.cell?_alloc_at _ _ _ _ rfl).trans rfl) ((HO8.out.frm (S := fun _ => False) (Frm.ofBelow HA9.out) (fun _ _ h => h)).wk HSZ4.out) (fun q hq e => by have h1 := (World.ownsRow.lt HO8.out q hq).1; have h2 := (HR4.out.lt0 q e).2; omega) HRL.out (Nat.le_trans HSZ4.out HB9.out.size) ?_; intro v10 w10 ho hf; have HO10 := hide (HREL.out a8 n8 c8 v10 w10 _ HB9.out ho hf); have hold10 : w10.cell? ⟨D2, 1, none⟩ = some (.int .i64 (lo : Int)) ∧ w10.cell? ⟨D2, 2, none⟩ = some (.int .i64 (lo : Int)) := ⟨hf.cell (cell_below c1 HB9.out) (fun e => by have e : u5.ownBlock = some D2 := e; have := HV.out D2 e; omega), hf.cell (cell_below c2 HB9.out) (fun e => by have e : u5.ownBlock = some D2 := e; have := HV.out D2 e; omega)⟩; clear ho hf))
          rename_i hheld
          clear hheld
          go_wp2
          exact HO10.out
end Go.Proofs.YtohoncgkekiihaaDoor
namespace Go.Proofs.YtohoncgkekiihaaDoor
open Go.RowKit FerryCrc
set_option linter.unusedVariables false
set_option linter.unusedSimpArgs false

/-- What a call for the record with that tag comes to: an error's code and place, or none and the body's length. -/
def recS (L : List Nat) (len p : Nat) (want : Int) : Nat × Int × Nat :=
  if len - p < 3 then (1, (p : Int), 0)
  else if L[p]? = some 0 ∨ ((L[p]?.getD 0 : Nat) : Int) ≠ want then (3, (p : Int), 0)
  else if len - (p + 3) < nbe (cut L (p + 1) 2) then (5, ((p + 1 : Nat) : Int), 0)
  else (0, -1, nbe (cut L (p + 1) 2))
/-- What Expect comes to. -/
def expE (L : List Nat) (len : Nat) : Nat → List Int → Nat × Int × List (List Nat)
  | p, [] => if len - p = 0 then (0, -1, []) else (2, (p : Int), [])
  | p, t :: ts => if (recS L len p t).1 = 0 then (if (expE L len (p + 3 + (recS L len p t).2.2) ts).1 = 0 then (0, -1, cut L (p + 3) (recS L len p t).2.2 :: (expE L len (p + 3 + (recS L len p t).2.2) ts).2.2) else ((expE L len (p + 3 + (recS L len p t).2.2) ts).1, (expE L len (p + 3 + (recS L len p t).2.2) ts).2.1, [])) else ((recS L len p t).1, (recS L len p t).2.1, [])
def finE (bs : List (List Nat)) (x : Nat × Int × List (List Nat)) : Nat × Int × List (List Nat) := if x.1 = 0 then (0, -1, bs ++ x.2.2) else (x.1, x.2.1, [])
theorem exp_tidy (L : List Nat) (len p : Nat) (ts : List Int) : finE [] (expE L len p ts) = expE L len p ts := by
  unfold finE
  cases ts with
  | nil => unfold expE; split <;> simp
  | cons t ts =>
    rw [expE]
    by_cases h : (recS L len p t).1 = 0
    · rw [if_pos h]
      by_cases h2 : (expE L len (p + 3 + (recS L len p t).2.2) ts).1 = 0
      · rw [if_pos h2]; rfl
      · rw [if_neg h2]; rw [if_neg h2]
    · rw [if_neg h, if_neg h]
theorem exp_step {L : List Nat} {len p n : Nat} {t : Int} {ts : List Int} {bs : List (List Nat)} (h : recS L len p t = (0, -1, n)) : finE bs (expE L len p (t :: ts)) = finE (bs ++ [cut L (p + 3) n]) (expE L len (p + 3 + n) ts) := by
  rw [expE, h, if_pos rfl]
  unfold finE
  by_cases h2 : (expE L len (p + 3 + n) ts).1 = 0
  · rw [if_pos h2, if_pos h2, if_pos rfl]
    simp
  · rw [if_neg h2, if_neg h2, if_neg h2]
theorem exp_bad {L : List Nat} {len p k m : Nat} {q t : Int} {ts : List Int} {bs : List (List Nat)} (h : recS L len p t = (k, q, m)) (hk : k ≠ 0) : finE bs (expE L len p (t :: ts)) = (k, q, []) := by
  rw [expE, h, if_neg hk]
  unfold finE
  rw [if_neg hk]
theorem exp_end {L : List Nat} {len p : Nat} {bs : List (List Nat)} : finE bs (expE L len p []) = if len - p = 0 then (0, -1, bs) else (2, (p : Int), []) := by
  rw [expE]
  split
  · unfold finE; simp
  · unfold finE; simp

/-- Either no such record stands there, and both sides say so; or it does. -/
theorem rec_cases (E : Nat → Addr) (L : List Nat) (len p : Nat) (want : Int) (hp : p ≤ len) (hL : len ≤ L.length) :
    (∃ k q : Nat, recS L len p want = (k, (q : Int), 0) ∧ 1 ≤ k ∧ k ≤ 20 ∧
      (∀ c g w, Cur w c g len p len L → Errs w E → Calls Tryd.prog 41 #[.pointer (some ⟨c, 0, none⟩), .int .i64 want] w fun e w' => ∃ ev, e = .returned (.tuple #[.pointer none, ev]) ∧ AtErr w' w.heap.size ev (E k) (q : Int) ∧ Below w.heap.size w w') ∧
      (∀ d g cap w, Doc w d g len cap p len L → Calls Tryd.prog 49 #[.pointer (some ⟨d, 0, none⟩), .int .i64 want] w fun e w' => DAns w d g len cap len L (.pointer none) k (q : Int) p e w')) ∨
    (∃ t n : Nat, recS L len p want = (0, -1, n) ∧ Rec L p len t n ∧ (t : Int) = want ∧
      (∀ d g cap w, Doc w d g len cap p len L → Calls Tryd.prog 49 #[.pointer (some ⟨d, 0, none⟩), .int .i64 want] w fun e w' => ∃ D, DAns w d g len cap len L (.pointer (some ⟨D, 0, none⟩)) 0 (-1) (p + 3 + n) e w' ∧ w.heap.size ≤ D ∧ Doc w' D g len cap (p + 3) (p + 3 + n) L)) := by
  have fin : ∀ (k q : Nat), (∀ d g cap w, Doc w d g len cap p len L → Calls Tryd.prog 85 #[.pointer (some ⟨d, 0, none⟩), .int .i64 want, .bool false] w fun e w' => DRec w d g len cap len L 0 (.pointer none) k (q : Int) p e w') → ∀ d g cap w, Doc w d g len cap p len L → Calls Tryd.prog 49 #[.pointer (some ⟨d, 0, none⟩), .int .i64 want] w fun e w' => DAns w d g len cap len L (.pointer none) k (q : Int) p e w' := fun k q hc d g cap w h =>
    Calls.mono (rrecord_of d g len cap p len L want 0 k q p none w h (fun w h => rrec_no (hc d g cap w h))) (fun e w' ⟨v, h1, h2⟩ => by
      have h2 : v = .pointer none := h2
      rw [h2] at h1
      exact h1)
  by_cases hs : len - p < 3
  · refine .inl ⟨1, p, by unfold recS; rw [if_pos hs], by decide, by decide, fun c g w h he => crec_tag c g len p len 1 p L want w (tag_short c g len p len L (E 1) w h he.v1 hs), fin 1 p (fun d g cap w h => rrec_short d g len cap p len L want false w h hs)⟩
  · obtain ⟨t, ht⟩ : ∃ t, L[p]? = some t := ⟨_, List.getElem?_eq_getElem (by omega)⟩
    by_cases h0 : t = 0
    · subst h0
      exact .inl ⟨3, p, by unfold recS; rw [if_neg hs, if_pos (.inl ht)], by decide, by decide, fun c g w h he => crec_tag c g len p len 3 p L want w (tag_zero c g len p len L (E 3) w h he.v3 (by omega) ht), fin 3 p (fun d g cap w h => rrec_tag d g len cap p len L want false 0 w h (by omega) ht (fun x => x.1 rfl))⟩
    · have hne : L[p]? ≠ some 0 := by rw [ht]; simp; exact h0
      by_cases hw : (t : Int) = want
      · have hor : ¬ (L[p]? = some 0 ∨ ((L[p]?.getD 0 : Nat) : Int) ≠ want) := by
          rintro (h | h)
          · exact hne h
          · rw [ht] at h; exact h hw
        by_cases hn : len - (p + 3) < nbe (cut L (p + 1) 2)
        · subst hw
          exact .inl ⟨5, p + 1, by unfold recS; rw [if_neg hs, if_neg hor, if_pos hn], by decide, by decide, fun c g w h he => crec_len c g len p len t L w h he (by omega) ht h0 hn, fin 5 (p + 1) (fun d g cap w h => rrec_len d g len cap p len L t false t w h (by omega) ht ⟨h0, fun _ => rfl⟩ hn)⟩
        · subst hw
          refine .inr ⟨t, _, by unfold recS; rw [if_neg hs, if_neg hor, if_neg hn], ⟨by omega, ht, h0, rfl, by omega⟩, rfl, fun d g cap w h => ?_⟩
          exact Calls.mono (rrecord_of d g len cap p len L t t 0 (-1) _ _ w h (fun w h => rrec_yes h (by omega) ht ⟨h0, fun _ => rfl⟩ (by omega))) (fun e w' ⟨v, h1, D, h2, h3, h4⟩ => ⟨D, by rw [← h2]; exact h1, h3, h4⟩)
      · have hor : L[p]? = some 0 ∨ ((L[p]?.getD 0 : Nat) : Int) ≠ want := .inr (by rw [ht]; exact hw)
        exact .inl ⟨3, p, by unfold recS; rw [if_neg hs, if_pos hor], by decide, by decide, fun c g w h he => crec_other c g len p len t L want w h he (by omega) ht h0 hw, fin 3 p (fun d g cap w h => rrec_tag d g len cap p len L want false t w h (by omega) ht (fun x => hw (x.2 rfl)))⟩

set_option maxRecDepth 100000 in
set_option maxHeartbeats 800000 in
/-- The program's Expect. -/
theorem pexpect_any {E : Nat → Addr} (a : Option Addr) (len cap : Nat) (L : List Nat) (a2 : Option Addr) (n2 c2 : Nat) (ts : List Int) (w : World) (hs : Bts w a len cap L) (ht : Rcs (fun t : Int => [.int .i64 t]) 1 w a2 n2 c2 ts) (he : Errs w E) (hm : len ≤ 4398046511000) (hm2 : n2 ≤ 4398046511000) :
    Calls Tryd.prog 20 #[.slice a len cap, .slice a2 n2 c2] w fun e w' => Below w.heap.size w w' ∧ ∃ rs v ev, e = .returned (.tuple #[v, ev]) ∧ IsErr w' E ev (expE L len 0 ts).1 (expE L len 0 ts).2.1 ∧ rs.map RV.l = (expE L len 0 ts).2.2 ∧ BvOwn w' w.heap.size v rs := by
  have HC := hide (copen_any a len cap L w hs)
  have HT := hide ht
  have HTZ := hide ht.size
  have HZ := hide hs.size
  have HM := hide hm
  have HE := hide he
  have HX0 := hide (exp_tidy L len 0 ts)
  clear hs hm ht he
  have HXS : Hid (finE (([] : List RV).map RV.l) (expE L len 0 (ts.drop 0)) = expE L len 0 ts) := HX0.out
  obtain ⟨x, hx⟩ : ∃ x, expE L len 0 ts = x := ⟨_, rfl⟩
  rw [hx] at HXS
  rw [hx]
  clear hx HX0
  go_enter Tryd.func20, Tryd.ntmps20
  go_wp2_with fail
  refine Calls.mono HC.out ?_
  rintro e w1 ⟨C, hC, rfl, hc, hb⟩
  obtain ⟨G, hG⟩ : ∃ G, w.heap.size = G := ⟨_, rfl⟩
  rw [hG] at hc
  have HK := hide hc
  have HB := hide hb
  clear hc hb HC
  go_wp2_with fail
  go_loopw [6, 17] (fun v i wr => ∃ (q p : Nat) (rs : List RV), q ≤ n2 ∧ i = .int .i64 (q : Int) ∧ Hid (Cur wr C G len p len L) ∧ Hid (BvOwn wr (C + 1) v rs) ∧ Hid (rs.length = q) ∧ Hid (finE (rs.map RV.l) (expE L len p (ts.drop q)) = x) ∧ Hid (Below w.heap.size w wr)) (fun _ i _ => n2 - (intOf i).toNat)
  case atStart => exact ⟨0, 0, [], by omega, rfl, HK, bv_nil _ _, rfl, HXS, HB⟩
  case round =>
    obtain ⟨q, p, rs, hq, rfl, HK, HR, HLR, HPP, HB⟩ := hrel
    by_cases hlt : q < n2
    · obtain ⟨want, hr⟩ : ∃ r, ts[q]? = some r := ⟨_, List.getElem?_eq_getElem (by rw [HTZ.out]; exact hlt)⟩
      obtain ⟨b, off, rfl, hcell⟩ := Rcs.at (f := fun t : Int => [.int .i64 t]) (sz := 1) (fun _ => rfl) (by decide) HT.out hr
      have k0 : wr.cell? ⟨b, off + q * 1, none⟩ = some (.int .i64 want) := cell_below (hcell 0 _ rfl) HB.out
      rw [Nat.mul_one] at k0
      have HDR : Hid (ts.drop q = want :: ts.drop (q + 1)) := by
        unfold Hid
        rw [List.drop_eq_getElem_cons (by rw [HTZ.out]; exact hlt)]
        congr 1
        exact Option.some.inj ((List.getElem?_eq_getElem _).symm.trans hr)
      have hq8 : q + 1 ≤ 4398046511104 := by omega
      clear hcell hr
      rcases rec_cases E L len p want (HK.out.le) (by rw [HZ.out]; exact Nat.le_refl _) with ⟨k, qq, e1, h1, h2, hpc, _⟩ | ⟨t, n, e1, hrec, hw, _⟩
      · have HPC := hide (hpc C G wr HK.out (HE.out.below HB.out))
        have HXX : Hid (x = (k, (qq : Int), [])) := by
          unfold Hid
          rw [← HPP.out, HDR.out]
          exact exp_bad e1 (by omega)
        have HK12 : Hid (1 ≤ k ∧ k ≤ 20) := ⟨h1, h2⟩
        clear hpc e1 h1 h2
        go_wp2_with fail
        refine Calls.mono HPC.out ?_
        rintro e w3 ⟨ev, rfl, ha, hb⟩
        have HA := hide (at_isErr ha HK12.out.1 HK12.out.2)
        have HB3 := hide (chain HB.out hb)
        obtain ⟨bb, _, rfl, _⟩ := ha
        clear hb
        go_wp2
        go_ret2
        refine ⟨HB3.out, [], _, _, rfl, ?_, ?_, bv_nil _ _⟩
        · rw [HXX.out]; exact HA.out
        · rw [HXX.out]; rfl
      · subst hw
        have HS := hide hrec
        have HXX : Hid (finE (rs.map RV.l ++ [cut L (p + 3) n]) (expE L len (p + 3 + n) (ts.drop (q + 1))) = x) := by
          unfold Hid
          rw [← exp_step e1, ← HDR.out]
          exact HPP.out
        have HG : Hid (p + 3 + n ≤ len) := by unfold Hid; have := hrec.2.2.2.2; have := hrec.1; omega
        clear hrec e1
        go_wp2_with fail
        refine Calls.mono (crec_ok C G len p len t n L wr HK.out HS.out) ?_
        rintro e w3 ⟨k, hk, rfl, q1, q2, q3⟩
        have HK3 := hide q1
        have HN3 := hide q2
        have HR3 := hide (HR.out.frm q3 (fun j hj e => by omega))
        have HB3 := hide (HB.out.trans (q3.below HB.out.size (fun j e => by omega)))
        clear q1 q2 q3 hk k0
        go_wp2_with fail
        refine Calls.mono (rest_any k G len (p + 3) (p + 3 + n) L w3 HN3.out) ?_
        rintro e w4 ⟨rfl, ho, hb⟩
        rw [show p + 3 + n - (p + 3) = n by omega] at ho ⊢
        have hcl : (cut L (p + 3) n).length = n := by
          unfold cut
          rw [List.length_take, List.length_drop, HZ.out]
          have := HG.out
          omega
        have HO := hide (ho.wk (base' := C + 1) (by have := HK3.out.lt; omega))
        have HK4 := hide (HK3.out.below hb)
        have HR4 := hide (HR3.out.below hb)
        have HB4 := hide (chain HB3.out hb)
        have HZ4 : Hid (C + 1 ≤ w4.heap.size) := HK4.out.lt
        have HNE : Hid (u6.ownBlock ≠ some w3.heap.size) := fun e => by
          have := (World.ownsRow.lt HR3.out.row _ e).2
          omega
        have HDD : Hid (∀ q ∈ rs, q.g ≠ w3.heap.size) := fun q hq e => by have := (World.ownsRow.lt (HR3.out.own q hq) q.g rfl).2; omega
        have HRL : Hid (rs.length + 1 ≤ 4398046511104) := by unfold Hid; rw [HLR.out]; exact hq8
        have HCL := hide hcl
        clear ho hb hcl
        have HA5 : Hid (Below w4.heap.size w4 (w4.alloc (.cells #[.slice (some ⟨w3.heap.size, 0, none⟩) n n] 23))) := (Below.refl _ _).alloc (Nat.le_refl _) _
        have HRW := hide (HR4.out.below HA5.out)
        have HKW := hide (HK4.out.below HA5.out)
        have hv : RV.v ⟨t, w3.heap.size, cut L (p + 3) n⟩ = .slice (some ⟨w3.heap.size, 0, none⟩) n n := by
          show Value.slice _ (cut L (p + 3) n).length (cut L (p + 3) n).length = _
          rw [HCL.out]
        have HOW : Hid (Own (w4.alloc (.cells #[.slice (some ⟨w3.heap.size, 0, none⟩) n n] 23)) (C + 1) (RV.v ⟨t, w3.heap.size, cut L (p + 3) n⟩) (cut L (p + 3) n)) := by
          unfold Hid
          rw [hv]
          exact HO.out.frm (S := fun _ => False) (Frm.ofBelow HA5.out) (fun _ _ h => h)
        have HX0 : Hid ((w4.alloc (.cells #[.slice (some ⟨w3.heap.size, 0, none⟩) n n] 23)).cell? ⟨w4.heap.size, 0, none⟩ = some (RV.v ⟨t, w3.heap.size, cut L (p + 3) n⟩)) := by
          unfold Hid
          rw [hv]
          exact (World.cell?_alloc_at _ _ _ _ rfl).trans rfl
        clear hv
        go_wp2_with (refine append_bv rfl (.tmp 30) (.tmp 33) rfl (C + 1) u6 rs rfl HRW.out w4.heap.size ⟨t, w3.heap.size, cut L (p + 3) n⟩ rfl HX0.out HOW.out HNE.out HDD.out HRL.out (Nat.le_trans HZ4.out HA5.out.size) ?_; intro v' w5 ho hf; have HO5 := hide ho; have HF5 := hide hf; clear ho hf)
        have HF6 : Hid (∀ j, u6.ownBlock = some j → C + 1 ≤ j) := fun j hj => (World.ownsRow.lt HRW.out.row j hj).1
        have HK5 := hide (HKW.out.frm HF5.out (fun e => by have := HF6.out C e; omega) (fun e => by have := HF6.out _ e; omega))
        have HB5 := hide ((chain HB4.out HA5.out).trans (HF5.out.below (chain HB4.out HA5.out).size (fun j e => by have := HF6.out j e; omega)))
        refine ⟨⟨q + 1, p + 3 + n, rs ++ [⟨t, w3.heap.size, cut L (p + 3) n⟩], by omega, by first | rfl | simp, HK5, HO5, ?_, ?_, HB5⟩, by simp [intOf]; omega⟩
        · unfold Hid
          rw [List.length_append, HLR.out]
          rfl
        · unfold Hid
          rw [List.map_append]
          exact HXX.out
    · obtain rfl : q = n2 := by omega
      have e2 : ts.drop q = [] := by rw [← HTZ.out]; exact List.drop_length
      rw [e2, exp_end] at HPP
      have hpl := HK.out.le
      clear e2
      by_cases hpe : p = len
      · subst hpe
        rw [if_pos (by omega)] at HPP
        go_wp2_with fail
        refine Calls.mono (end_ok C G p p p L wr HK.out (by omega)) ?_
        rintro e w2 ⟨rfl, hb2⟩
        have HR2 := hide ((HR.out.below hb2).wk (base' := w.heap.size) (by omega))
        have HB2 := hide (chain HB.out hb2)
        clear hb2
        go_wp2
        go_ret2
        refine ⟨HB2.out, rs, u6, _, rfl, ?_, ?_, HR2.out⟩
        · rw [← HPP.out]; exact .inl ⟨rfl, rfl, rfl⟩
        · rw [← HPP.out]
      · rw [if_neg (by omega)] at HPP
        have hlt2 : 0 < len - p := by omega
        go_wp2_with fail
        refine Calls.mono (end_bad C G len p len L (E 2) wr HK.out (HE.out.below HB.out).v2 hlt2) ?_
        rintro e w2 ⟨ev, rfl, ha, hb2⟩
        have HA := hide (at_isErr ha (by decide) (by decide))
        have HB2 := hide (chain HB.out hb2)
        obtain ⟨bb, _, rfl, _⟩ := ha
        clear hb2
        go_wp2
        go_ret2
        refine ⟨HB2.out, [], _, _, rfl, ?_, ?_, bv_nil _ _⟩
        · rw [← HPP.out]; exact HA.out
        · rw [← HPP.out]; rfl
end Go.Proofs.YtohoncgkekiihaaDoor
namespace Go.Proofs.YtohoncgkekiihaaDoor
open Go.RowKit FerryCrc
set_option linter.unusedVariables false
set_option linter.unusedSimpArgs false

/-- A list of bodies of the call's own, on the document's side. -/
structure DbOwn (w : World) (base : Nat) (v : Value) (rs : List JW) : Prop where
  row : w.ownsRow base 23 1 v rs.length (rs.map JW.v)
  ne : ∀ r ∈ rs, ∀ k, r.v.ownBlock = some k → v.ownBlock ≠ some k
  own : ∀ r ∈ rs, Own w base r.v r.l
theorem DbOwn.frm {S : Nat → Prop} {w w' : World} {base : Nat} {v : Value} {rs : List JW} (h : DbOwn w base v rs) (hf : Frm S w w') (hS : ∀ k, base ≤ k → ¬ S k) : DbOwn w' base v rs := by
  refine ⟨⟨h.row.1, ?_⟩, h.ne, fun r hr => (h.own r hr).frm hf (fun k hk => hS k (World.ownsRow.lt (h.own r hr) k hk).1)⟩
  rcases h.row.2 with e | ⟨g, cap, cur, e, hg, hh, r⟩
  · exact .inl e
  · refine .inr ⟨g, cap, cur, e, hg, ?_, r⟩
    rw [hf.block g (Array.getElem?_eq_some_iff.1 hh).1 (hS g hg)]
    exact hh
theorem DbOwn.below {w w' : World} {base : Nat} {v : Value} {rs : List JW} (h : DbOwn w base v rs) (hb : Below w.heap.size w w') : DbOwn w' base v rs :=
  h.frm (S := fun _ => False) (Frm.ofBelow hb) (fun _ _ h => h)
theorem DbOwn.wk {w : World} {base base' : Nat} {v : Value} {rs : List JW} (h : DbOwn w base v rs) (hb : base' ≤ base) : DbOwn w base' v rs :=
  ⟨ownsRow_weaken h.row hb, h.ne, fun r hr => (h.own r hr).wk hb⟩
theorem db_nil (w : World) (base : Nat) : DbOwn w base (.slice none 0 0) [] := ⟨⟨rfl, .inl ⟨rfl, rfl⟩⟩, fun r hr => by simp at hr, fun r hr => by simp at hr⟩
/-- The same as one step of a statement whose order Go leaves open. -/
theorem step_db {w : World} {ops : Array Oper} {o : Oper} {act : Act} {K : Act → World → Prop} {Q : Exit → Act → World → Prop} {EE : Prop} (hgd : o.guard = none) (s x : Operand)
    (ho : o.op = .call { callee := .builtin .append, args := #[s, x], argTypes := #[36, 36] })
    (base : Nat) (v : Value) (rs : List JW) (hs : act.eval s = v) (hown : DbOwn w base v rs)
    (gx : Nat) (r : JW) (hx : act.eval x = .slice (some ⟨gx, 0, none⟩) 1 1) (x0 : w.cell? ⟨gx, 0, none⟩ = some r.v)
    (hr : Own w base r.v r.l) (hn : ∀ k, r.v.ownBlock = some k → v.ownBlock ≠ some k) (h63 : rs.length + 1 ≤ 4398046511104) (hbase : base ≤ w.heap.size)
    (h : ∀ v' w', DbOwn w' base v' (rs ++ [r]) → Frm (fun k => v.ownBlock = some k) w w' → K (act.put o.dst v') w') :
    if Region.wanted o (yielded ops act.tmps) = true then Oper.wp Tryd.prog o act w K Q else EE := by
  obtain ⟨i, z, hi, hz, hsz, hby, hzs⟩ := infoBody
  refine step_append_lies w hgd s x 36 ho base 23 i z 1 24 Tryd.underlying36 hi hz hsz hby hzs (by decide) v rs.length (rs.map JW.v) hs hown.row ⟨gx, 0, none⟩ 1 1 [r.v] hx rfl ?_ ?_ (by decide) (by unfold maxLen; omega) (by omega) hbase _ rfl ?_
  · intro j u hu
    rw [add_none, Nat.zero_add]
    match j, hu with
    | 0, hu => simp only [List.getElem?_cons_zero, Option.some.injEq] at hu; rw [← hu]; exact x0
    | j + 1, hu => simp at hu
  · intro u hu
    rw [List.mem_singleton.1 hu]
    rfl
  · intro g cap w' h1 h2 h3 h4
    have hf := frm_grown h2
    refine h _ w' ⟨?_, ?_, ?_⟩ hf
    · rw [List.length_append, List.map_append]
      simpa using h1
    · intro q hq k hk e
      simp only [Value.ownBlock, Option.some.injEq] at e
      subst e
      rcases List.mem_append.1 hq with hq | hq
      · rcases h3 with h3 | h3
        · exact hown.ne q hq g hk h3
        · have := (World.ownsRow.lt (hown.own q hq) g hk).2
          omega
      · obtain rfl := List.mem_singleton.1 hq
        rcases h3 with h3 | h3
        · exact hn g hk h3
        · have := (World.ownsRow.lt hr g hk).2
          omega
    · intro q hq
      rcases List.mem_append.1 hq with hq | hq
      · exact (hown.own q hq).frm hf (fun k hk e => hown.ne q hq k hk e)
      · obtain rfl := List.mem_singleton.1 hq
        exact hr.frm hf (fun k hk e => hn k hk e)


theorem DbOwn.lt0 {w : World} {base : Nat} {v : Value} {rs : List JW} (h : DbOwn w base v rs) (k : Nat) (hk : v.ownBlock = some k) : base ≤ k ∧ k < w.heap.size := World.ownsRow.lt h.row k hk
theorem flat_jv (rs : List JW) : rs.flatMap (fun r => [r.v]) = rs.map JW.v := by
  induction rs with
  | nil => rfl
  | cons r rs ih => rw [List.flatMap_cons, ih]; rfl
theorem DbOwn.shows {w : World} {base : Nat} {v : Value} {rs : List JW} (h : DbOwn w base v rs) (hm : ∀ r ∈ rs, r.l.length ≤ 140737488355328 ∧ ∀ c ∈ r.l, c < 256) :
    ∃ a c, v = .slice a rs.length c ∧ Rcs (fun r : JW => [r.v]) 1 w a rs.length c rs ∧ ∀ r ∈ rs, Bts w r.a r.n r.c r.l := by
  obtain ⟨a, c, e, hr⟩ := RLk.row (.inl h.row)
  refine ⟨a, c, e, ⟨rfl, by rw [flat_jv]; exact hr⟩, fun r hr => ?_⟩
  obtain ⟨a', c', e', hb⟩ := (h.own r hr).shown (hm r hr).1 (hm r hr).2
  unfold JW.v at e'
  simp only [Value.slice.injEq] at e'
  obtain ⟨e1, e2, e3⟩ := e'
  rw [e1, e2, e3]
  exact hb

set_option maxRecDepth 100000 in
set_option maxHeartbeats 1600000 in
theorem dexpect_any (E : Nat → Addr) (a : Option Addr) (len cap : Nat) (L : List Nat) (a2 : Option Addr) (n2 c2 : Nat) (ts : List Int) (w : World) (hs : Bts w a len cap L) (ht : Rcs (fun t : Int => [.int .i64 t]) 1 w a2 n2 c2 ts) (hm : len ≤ 4398046511000) (hm2 : n2 ≤ 4398046511000) :
    Calls Tryd.prog 13 #[.slice a len cap, .slice a2 n2 c2] w fun e w' => Below w.heap.size w w' ∧ ∃ rs v, e = .returned (.tuple #[v, rerr ((expE L len 0 ts).1 : Int) (expE L len 0 ts).2.1]) ∧ rs.map JW.l = (expE L len 0 ts).2.2 ∧ DbOwn w' w.heap.size v rs := by
  have HS := hide hs
  have HTG := hide ht
  have HTZ := hide ht.size
  have HZ := hide hs.size
  have HM := hide hm
  have HXS : Hid (finE (([] : List JW).map JW.l) (expE L len 0 (ts.drop 0)) = expE L len 0 ts) := exp_tidy L len 0 ts
  obtain ⟨x, hx⟩ : ∃ x, expE L len 0 ts = x := ⟨_, rfl⟩
  rw [hx] at HXS
  rw [hx]
  have HT := hide (two_alloc w (.int .i64 0) (.int .i64 0) 31)
  have HB0 : Hid (Below w.heap.size w (w.alloc (.cells #[.int .i64 0, .int .i64 0] 31))) := (Below.refl _ _).alloc (Nat.le_refl _) _
  have HZ0 : Hid (w.heap.size < (w.alloc (.cells #[.int .i64 0, .int .i64 0] 31)).heap.size) := by unfold Hid; simp
  clear hs hm ht hx
  go_enter Tryd.func13, Tryd.ntmps13
  go_wp2_with fail
  generalize w.alloc (.cells #[.int .i64 0, .int .i64 0] 31) = W0 at *
  refine Calls.mono (refOpen_doc a len cap L W0 (HS.out.below HB0.out)) ?_
  rintro e w1 ⟨D, H, cp, hD, hH, rfl, hd, hb⟩
  have HD : Hid (w.heap.size < D ∧ w.heap.size < H ∧ D < w1.heap.size ∧ H < w1.heap.size) := by unfold Hid; have := HZ0.out; have := hd.lt; have := hd.ne.2; omega
  have HDoc := hide hd
  have HT1 := hide (HT.out.below hb)
  have HB := hide (chain HB0.out hb)
  clear hd hb hD hH HT HB0 HZ0
  go_wp2_with fail
  go_loopw [7, 8] (fun v i wr => ∃ (q p : Nat) (rs : List JW), q ≤ n2 ∧ i = .int .i64 (q : Int) ∧ Hid (Doc wr D H len cp p len L) ∧ Hid (DbOwn wr w1.heap.size v rs) ∧ Hid (rs.length = q) ∧ Hid (finE (rs.map JW.l) (expE L len p (ts.drop q)) = x) ∧ Hid (Two wr w.heap.size (.int .i64 0) (.int .i64 0)) ∧ Hid (w1.heap.size ≤ wr.heap.size) ∧ Hid (Below w.heap.size w wr)) (fun _ i _ => n2 - (intOf i).toNat)
  case atStart => exact ⟨0, 0, [], by omega, rfl, HDoc, db_nil _ _, rfl, HXS, HT1, Nat.le_refl _, HB⟩
  case round =>
    obtain ⟨q, p, rs, hq, rfl, HK, HR, HLR, HPP, HTR, HSZ, HBR⟩ := hrel
    by_cases hlt : q < n2
    · obtain ⟨want, hr⟩ : ∃ r, ts[q]? = some r := ⟨_, List.getElem?_eq_getElem (by rw [HTZ.out]; exact hlt)⟩
      obtain ⟨bt, offt, rfl, hcell⟩ := Rcs.at (f := fun t : Int => [.int .i64 t]) (sz := 1) (fun _ => rfl) (by decide) HTG.out hr
      have k0 : wr.cell? ⟨bt, offt + q * 1, none⟩ = some (.int .i64 want) := cell_below (hcell 0 _ rfl) HBR.out
      rw [Nat.mul_one] at k0
      have HDR : Hid (ts.drop q = want :: ts.drop (q + 1)) := by
        unfold Hid
        rw [List.drop_eq_getElem_cons (by rw [HTZ.out]; exact hlt)]
        congr 1
        exact Option.some.inj ((List.getElem?_eq_getElem _).symm.trans hr)
      have hq8 : q + 1 ≤ 4398046511104 := by omega
      clear hcell hr
      rcases rec_cases E L len p want (HK.out.le) (by rw [HZ.out]; exact Nat.le_refl _) with ⟨k, qq, e1, h1, h2, _, hdc⟩ | ⟨t, n, e1, hrec, hwant, hdc⟩
      · have HDC := hide (hdc D H cp wr HK.out)
        have HXX : Hid (x = (k, (qq : Int), [])) := by
          unfold Hid
          rw [← HPP.out, HDR.out]
          exact exp_bad e1 (by omega)
        have hi1 : ((k : Int) != 0) = true := by simp; omega
        clear hdc e1 h1 h2
        go_wp2_with fail
        refine Calls.mono HDC.out ?_
        rintro e w3 ⟨rfl, h1, hf⟩
        have HT3 := hide (HTR.out.frm hf (by show ¬ w.heap.size = D; have := HD.out; omega))
        have HB3 := hide (HBR.out.trans (hf.below HBR.out.size (fun j e => by have e : j = D := e; have := HD.out; omega)))
        clear h1 hf
        unfold rerr
        go_wp2_with fail
        have HA4 : Hid (Below w3.heap.size w3 (w3.alloc (.cells #[.int .i64 (k : Int), .int .i64 (qq : Int)] 31))) := (Below.refl _ _).alloc (Nat.le_refl _) _
        have HT4 := hide (HT3.out.below HA4.out)
        have HE4 := hide (two_alloc w3 (.int .i64 (k : Int)) (.int .i64 (qq : Int)) 31)
        have HB4 := hide (chain HB3.out HA4.out)
        have t0 := HT4.out.c0
        have t1 := HT4.out.c1
        have f0 := HT4.out.f0
        have f1 := HT4.out.f1
        have s0 := HE4.out.c0
        have s1 := HE4.out.c1
        clear HT3 HA4
        generalize w3.alloc (.cells #[.int .i64 (k : Int), .int .i64 (qq : Int)] 31) = W4 at *
        go_region
        all_goals go_wp2
        all_goals
          have q0 := (HT4.out.set (.int .i64 (k : Int)) (.int .i64 (qq : Int))).c0
          have q1 := (HT4.out.set (.int .i64 (k : Int)) (.int .i64 (qq : Int))).c1
          have HW := hide ((bel_two (u := .int .i64 (k : Int)) (v := .int .i64 (qq : Int)) HB4.out (Nat.le_refl _)).drew)
          (try simp only [Exit.inBlock, Exit.then])
          refine bodyPost_ret (v := .tuple #[.slice none 0 0, rerr (k : Int) (qq : Int)]) (by simp [results, Tryd.results13, go_sem, q0, q1]; rfl) rfl ?_
          refine ⟨HW.out, [], _, ?_, ?_, db_nil _ _⟩
          · rw [HXX.out]
          · rw [HXX.out]; rfl
      · subst hwant
        have HREC := hide hrec
        have HPL : Hid (p < len) := by unfold Hid; have := hrec.1; omega
        obtain ⟨b, off, hab⟩ : ∃ b off, a = some ⟨b, off, none⟩ := by
          have := HPL.out
          obtain ⟨b, off, e, _⟩ := HS.out.cell 0 (by omega)
          exact ⟨b, off, e⟩
        subst hab
        obtain ⟨lo, hlo⟩ : ∃ lo, p + 3 = lo := ⟨_, rfl⟩
        obtain ⟨hi, hhi⟩ : ∃ hi, lo + n = hi := ⟨_, rfl⟩
        have hfit := HS.out.fit
        have HFT := hide hfit
        have hmost := HS.out.most
        have hsp := hrec.2.2.2.2
        have hsp1 := hrec.1
        have HNX := hide (hdc D H cp wr HK.out)
        have HHI : Hid (p + 3 = lo ∧ lo + n = hi ∧ hi ≤ len) := by unfold Hid; omega
        rw [hlo, hhi] at HNX
        have i1 : (0 : Int) ≤ (lo : Int) := by omega
        have i2 : (lo : Int) ≤ (hi : Int) := by omega
        have i3 : (hi : Int) ≤ (cap : Int) := by omega
        have i4 : (0 : Int) ≤ (hi : Int) := by omega
        have h5 : lo ≤ hi := by omega
        have h6 : hi ≤ cap := by omega
        have h7 : hi - lo = n := by omega
        have HLL : Hid (([] : List Nat).length + n ≤ 140737488355328) := by unfold Hid; simp; omega
        have HRL : Hid (rs.length + 1 ≤ 4398046511104) := by unfold Hid; rw [HLR.out]; exact hq8
        have HXX : Hid (finE (rs.map JW.l ++ [cut L lo n]) (expE L len hi (ts.drop (q + 1))) = x) := by
          unfold Hid
          rw [← hhi, ← hlo, ← exp_step e1, ← HDR.out]
          exact HPP.out
        clear hrec hlo hhi hfit hmost hsp hsp1 hdc e1
        go_wp2_with fail
        refine Calls.mono HNX.out ?_
        rintro e w3 ⟨D2, ⟨rfl, h1, hf⟩, hD2, h2⟩
        have HA4 : Hid (Below w3.heap.size w3 (w3.alloc (.cells #[.int .i64 0, .int .i64 (-1)] 31))) := (Below.refl _ _).alloc (Nat.le_refl _) _
        have HT4 := hide ((HTR.out.frm hf (by show ¬ w.heap.size = D; have := HD.out; omega)).below HA4.out)
        have HB4 := hide (chain (HBR.out.trans (hf.below HBR.out.size (fun j e => by have e : j = D := e; have := HD.out; omega))) HA4.out)
        have HK4 := hide (h1.below HA4.out)
        have HI4 := hide (h2.below HA4.out)
        have HR4 := hide ((HR.out.frm hf (fun j hj (e : j = D) => by have := HD.out; omega)).below HA4.out)
        have HSZ4 : Hid (w1.heap.size ≤ (w3.alloc (.cells #[.int .i64 0, .int .i64 (-1)] 31)).heap.size) := Nat.le_trans (Nat.le_trans HSZ.out hf.size) HA4.out.size
        have HV : Hid (∀ j, u7.ownBlock = some j → w1.heap.size ≤ j ∧ j < D2) := fun j hj => by have := HR.out.lt0 j hj; omega
        have c1 := HI4.out.c1
        have c2 := HI4.out.c2
        clear h1 h2 hf HNX hD2
        unfold rerr
        go_wp2_with fail
        clear HA4
        generalize w3.alloc (.cells #[.int .i64 0, .int .i64 (-1)] 31) = W4 at *
        have HBT := hide (HS.out.below HB4.out)
        have HD4 : Hid (Below W4.heap.size W4 W4.drew) := (Below.refl _ _).drew
        have HA6 : Hid (Below W4.heap.size W4 (W4.drew.alloc (.cells #[] 5))) := HD4.out.alloc HD4.out.size _
        have HOE : Hid (Own (W4.drew.alloc (.cells #[] 5)) W4.heap.size (.slice (some ⟨W4.heap.size, 0, none⟩) 0 0) []) := own_empty W4.drew
        have HREL : Hid (∀ (a8 : Option Addr) (n8 c8 : Nat) (v10 : Value) (w10 w9 : World), Below W4.heap.size W4 w9 → DbOwn w10 w1.heap.size v10 (rs ++ [⟨(t : Int), a8, n8, c8, cut L lo n⟩]) → Frm (fun k => u7.ownBlock = some k) w9 w10 →
            ((∃ (q' p : Nat) (rs : List JW), q' ≤ n2 ∧ Value.int .i64 ((q : Int) + 1) = .int .i64 (q' : Int) ∧ Hid (Doc w10 D H len cp p len L) ∧ Hid (DbOwn w10 w1.heap.size v10 rs) ∧ Hid (rs.length = q') ∧ Hid (finE (rs.map JW.l) (expE L len p (ts.drop q')) = x) ∧ Hid (Two w10 w.heap.size (.int .i64 0) (.int .i64 0)) ∧ Hid (w1.heap.size ≤ w10.heap.size) ∧ Hid (Below w.heap.size w w10)) ∧ n2 - (intOf (Value.int .i64 ((q : Int) + 1))).toNat < n2 - (intOf (Value.int .i64 (q : Int))).toNat)) := fun a8 n8 c8 v10 w10 w9 hb9 ho hf => by
          have hK := (HK4.out.below hb9).frm hf (fun e => by have := HV.out D e; have := HD.out; omega) (fun e => by have := HV.out H e; have := HD.out; omega)
          have hT := (HT4.out.below hb9).frm hf (fun e => by have := HV.out _ e; have := HD.out; omega)
          have hB := (chain HB4.out hb9).trans (hf.below (chain HB4.out hb9).size (fun j e => by have := HV.out j e; have := HD.out; omega))
          refine ⟨⟨q + 1, hi, _, by omega, by first | rfl | simp, hK, ho, ?_, ?_, hT, Nat.le_trans HSZ4.out (Nat.le_trans hb9.size hf.size), hB⟩, by simp [intOf]; omega⟩
          · show (rs ++ _).length = _
            rw [List.length_append, HLR.out]
            rfl
          · show finE ((rs ++ _).map JW.l) _ = _
            rw [List.map_append]
            exact HXX.out
        by_cases hcp : lo < cap
        · have hcap : ¬ cap = lo := by omega
          have hcap2 : ¬ lo = cap := by omega
          have HDP := hide (bts_part HBT.out lo n (by have := HHI.out; omega))
          go_region_held3 (fun wz => wz.cell? ⟨D2, 1, none⟩ = some (.int .i64 (lo : Int)) ∧ wz.cell? ⟨D2, 2, none⟩ = some (.int .i64 (hi : Int))) (first | exact ⟨c1, c2⟩ | exact ⟨cell_below c1 HA6.out, cell_below c2 HA6.out⟩ | exact ⟨cell_below c1 HB8.out, cell_below c2 HB8.out⟩ | exact ⟨cell_below c1 HB9.out, cell_below c2 HB9.out⟩ | exact hold10)
            (first
              | (refine step_lie0 rfl (.tmp 34) (.tmp 44) rfl W4.heap.size (.slice (some ⟨W4.heap.size, 0, none⟩) 0 0) [] (by simp [Act.eval]) HOE.out (some ⟨b, off + lo, none⟩) n (cap - lo) (cut L lo n) (by simp [Act.eval]) (HDP.out.below HA6.out) HLL.out HA6.out.size ?_; intro v8 w8 ho hf; rw [List.nil_append] at ho; have HO8 := hide ho; have HB8 := hide (HA6.out.trans (hf.below HA6.out.size (fun j e => (World.ownsRow.lt HOE.out j e).1))); obtain ⟨a8, n8, c8, rfl⟩ := ho.sl; have HA9 : Hid (Below w8.heap.size w8 (w8.alloc (.cells #[.slice a8 n8 c8] 23))) := (Below.refl _ _).alloc (Nat.le_refl _) _; have HB9 := hide (chain HB8.out HA9.out); clear ho hf)
              | (refine step_db rfl (.tmp 33) (.tmp 46) rfl w1.heap.size u7 rs (by simp [Act.eval]) (HR4.out.below HB9.out) w8.heap.size ⟨(t : Int), a8, n8, c8, cut L lo n⟩ (by simp [Act.eval]) ((World.cell?_alloc_at _ _ _ _ rfl).trans rfl) ((HO8.out.frm (S := fun _ => False) (Frm.ofBelow HA9.out) (fun _ _ h => h)).wk HSZ4.out) (fun q hq e => by have h1 := (World.ownsRow.lt HO8.out q hq).1; have h2 := (HR4.out.lt0 q e).2; omega) HRL.out (Nat.le_trans HSZ4.out HB9.out.size) ?_; intro v10 w10 ho hf; have HO10 := hide (HREL.out a8 n8 c8 v10 w10 _ HB9.out ho hf); have hold10 : w10.cell? ⟨D2, 1, none⟩ = some (.int .i64 (lo : Int)) ∧ w10.cell? ⟨D2, 2, none⟩ = some (.int .i64 (hi : Int)) := ⟨hf.cell (cell_below c1 HB9.out) (fun e => by have e : u7.ownBlock = some D2 := e; have := HV.out D2 e; omega), hf.cell (cell_below c2 HB9.out) (fun e => by have e : u7.ownBlock = some D2 := e; have := HV.out D2 e; omega)⟩; clear ho hf))
          rename_i hheld
          clear hheld
          go_wp2
          exact HO10.out
        · obtain rfl : n = 0 := by have := HHI.out; omega
          obtain rfl : lo = hi := by have := HHI.out; omega
          obtain rfl : lo = cap := by omega
          obtain rfl : lo = len := by have := HHI.out; have := HFT.out; omega
          have HDP := hide (fun (a : Option Addr) (wx : World) => nil_bts wx a L lo)
          go_region_held3 (fun wz => wz.cell? ⟨D2, 1, none⟩ = some (.int .i64 (lo : Int)) ∧ wz.cell? ⟨D2, 2, none⟩ = some (.int .i64 (lo : Int))) (first | exact ⟨c1, c2⟩ | exact ⟨cell_below c1 HA6.out, cell_below c2 HA6.out⟩ | exact ⟨cell_below c1 HB8.out, cell_below c2 HB8.out⟩ | exact ⟨cell_below c1 HB9.out, cell_below c2 HB9.out⟩ | exact hold10)
            (first
              | (refine step_lie0 rfl (.tmp 34) (.tmp 44) rfl W4.heap.size (.slice (some ⟨W4.heap.size, 0, none⟩) 0 0) [] (by simp [Act.eval]) HOE.out _ 0 _ (cut L lo 0) rfl (HDP.out _ _) HLL.out HA6.out.size ?_; intro v8 w8 ho hf; rw [List.nil_append] at ho; have HO8 := hide ho; have HB8 := hide (HA6.out.trans (hf.below HA6.out.size (fun j e => (World.ownsRow.lt HOE.out j e).1))); obtain ⟨a8, n8, c8, rfl⟩ := ho.sl; have HA9 : Hid (Below w8.heap.size w8 (w8.alloc (.cells #[.slice a8 n8 c8] 23))) := (Below.refl _ _).alloc (Nat.le_refl _) _; have HB9 := hide (chain HB8.out HA9.out); clear ho hf)
              | (refine step_db rfl (.tmp 33) (.tmp 46) rfl w1.heap.size u7 rs (by simp [Act.eval]) (HR4.out.below HB9.out) w8.heap.size ⟨(t : Int), a8, n8, c8, cut L lo 0⟩ (by simp [Act.eval]) ((World.cell?_alloc_at _ _ _ _ rfl).trans rfl) ((HO8.out.frm (S := fun _ => False) (Frm.ofBelow HA9.out) (fun _ _ h => h)).wk HSZ4.out) (fun q hq e => by have h1 := (World.ownsRow.lt HO8.out q hq).1; have h2 := (HR4.out.lt0 q e).2; omega) HRL.out (Nat.le_trans HSZ4.out HB9.out.size) ?_; intro v10 w10 ho hf; have HO10 := hide (HREL.out a8 n8 c8 v10 w10 _ HB9.out ho hf); have hold10 : w10.cell? ⟨D2, 1, none⟩ = some (.int .i64 (lo : Int)) ∧ w10.cell? ⟨D2, 2, none⟩ = some (.int .i64 (lo : Int)) := ⟨hf.cell (cell_below c1 HB9.out) (fun e => by have e : u7.ownBlock = some D2 := e; have := HV.out D2 e; omega), hf.cell (cell_below c2 HB9.out) (fun e => by have e : u7.ownBlock = some D2 := e; have := HV.out D2 e; omega)⟩; clear ho hf))
          rename_i hheld
          clear hheld
          go_wp2
          exact HO10.out
    · obtain rfl : q = n2 := by omega
      have e2 : ts.drop q = [] := by rw [← HTZ.out]; exact List.drop_length
      rw [e2, exp_end] at HPP
      have hpl := HK.out.le
      clear e2
      have HEN := hide (rended_any D H len cp p len L wr HK.out)
      by_cases hpe : p = len
      · subst hpe
        rw [if_pos (by omega)] at HPP
        rw [if_pos (by omega)] at HEN
        go_wp2_with fail
        refine Calls.mono HEN.out ?_
        rintro e w2 ⟨rfl, hb2⟩
        have HA3 : Hid (Below w2.heap.size w2 (w2.alloc (.cells #[.int .i64 0, .int .i64 (-1)] 31))) := (Below.refl _ _).alloc (Nat.le_refl _) _
        have HT3 := hide ((HTR.out.below hb2).below HA3.out)
        have HR3 := hide ((HR.out.below hb2).below HA3.out)
        have HB3 := hide (chain (chain HBR.out hb2) HA3.out)
        clear hb2 HEN
        unfold rerr
        go_wp2_with fail
        clear HA3
        generalize w2.alloc (.cells #[.int .i64 0, .int .i64 (-1)] 31) = W3 at *
        refine Calls.mono (rnone_any W3) ?_
        rintro e w4 ⟨rfl, hb4⟩
        have HT4 := hide (HT3.out.below hb4)
        have HR4 := hide (HR3.out.below hb4)
        have HB4 := hide (chain HB3.out hb4)
        have t0 := HT4.out.c0
        have t1 := HT4.out.c1
        have f0 := HT4.out.f0
        have f1 := HT4.out.f1
        clear hb4
        unfold rerr
        go_wp2
        have q0 := (HT4.out.set (.int .i64 0) (.int .i64 (-1))).c0
        have q1 := (HT4.out.set (.int .i64 0) (.int .i64 (-1))).c1
        have HR5 := hide ((HR4.out.frm (frm_setCell w4 ⟨w.heap.size, 0, none⟩ (.int .i64 0)) (fun j hj (e : j = w.heap.size) => by have := HD.out; omega)).frm (frm_setCell _ ⟨w.heap.size, 1, none⟩ (.int .i64 (-1))) (fun j hj (e : j = w.heap.size) => by have := HD.out; omega))
        have HW := hide (bel_two (u := .int .i64 0) (v := .int .i64 (-1)) HB4.out (Nat.le_refl _))
        (try simp only [Exit.inBlock, Exit.then])
        refine bodyPost_ret (v := .tuple #[u7, rerr 0 (-1)]) (by simp [results, Tryd.results13, go_sem, q0, q1]; rfl) rfl ?_
        refine ⟨HW.out, rs, u7, ?_, ?_, HR5.out.wk (by have := HD.out; omega)⟩
        · rw [← HPP.out]; rfl
        · rw [← HPP.out]
      · rw [if_neg (by omega)] at HPP
        rw [if_neg (by omega)] at HEN
        go_wp2_with fail
        refine Calls.mono HEN.out ?_
        rintro e w2 ⟨rfl, hb2⟩
        have HA3 : Hid (Below w2.heap.size w2 (w2.alloc (.cells #[.int .i64 2, .int .i64 (p : Int)] 31))) := (Below.refl _ _).alloc (Nat.le_refl _) _
        have HT4 := hide ((HTR.out.below hb2).below HA3.out)
        have HE4 := hide (two_alloc w2 (.int .i64 2) (.int .i64 (p : Int)) 31)
        have HB4 := hide (chain (chain HBR.out hb2) HA3.out)
        clear hb2 HEN
        unfold rerr
        go_wp2_with fail
        clear HA3
        have t0 := HT4.out.c0
        have t1 := HT4.out.c1
        have f0 := HT4.out.f0
        have f1 := HT4.out.f1
        have s0 := HE4.out.c0
        have s1 := HE4.out.c1
        generalize w2.alloc (.cells #[.int .i64 2, .int .i64 (p : Int)] 31) = W4 at *
        go_region
        all_goals go_wp2
        all_goals
          have q0 := (HT4.out.set (.int .i64 2) (.int .i64 (p : Int))).c0
          have q1 := (HT4.out.set (.int .i64 2) (.int .i64 (p : Int))).c1
          have HW := hide ((bel_two (u := .int .i64 2) (v := .int .i64 (p : Int)) HB4.out (Nat.le_refl _)).drew)
          (try simp only [Exit.inBlock, Exit.then])
          refine bodyPost_ret (v := .tuple #[.slice none 0 0, rerr 2 (p : Int)]) (by simp [results, Tryd.results13, go_sem, q0, q1]; rfl) rfl ?_
          refine ⟨HW.out, [], _, ?_, ?_, db_nil _ _⟩
          · rw [← HPP.out]; rfl
          · rw [← HPP.out]; rfl
end Go.Proofs.YtohoncgkekiihaaDoor
namespace Go.Proofs.YtohoncgkekiihaaDoor
open Go.RowKit FerryCrc
set_option linter.unusedVariables false
set_option linter.unusedSimpArgs false

theorem digs_at : ∀ (n : Nat) (h : n < (⟨#[48, 49, 50, 51, 52, 53, 54, 55, 56, 57, 97, 98, 99, 100, 101, 102]⟩ : ByteArray).size), ((⟨#[48, 49, 50, 51, 52, 53, 54, 55, 56, 57, 97, 98, 99, 100, 101, 102]⟩ : ByteArray)[n]'h).toNat = hexd n := by
  intro n h
  have h : n < 16 := h
  match n, h with
  | 0, _ => rfl
  | 1, _ => rfl
  | 2, _ => rfl
  | 3, _ => rfl
  | 4, _ => rfl
  | 5, _ => rfl
  | 6, _ => rfl
  | 7, _ => rfl
  | 8, _ => rfl
  | 9, _ => rfl
  | 10, _ => rfl
  | 11, _ => rfl
  | 12, _ => rfl
  | 13, _ => rfl
  | 14, _ => rfl
  | 15, _ => rfl
  | n + 16, h => omega

set_option maxRecDepth 100000 in
set_option maxHeartbeats 400000 in
theorem rdigit_any (c : Nat) (w : World) (hc : c < 256) :
    Calls Tryd.prog 50 #[.int .u8 (c : Int)] w fun e w' => e = .returned (.int .i64 (hexi c)) ∧ w = w' := by
  have hdg := digs_at
  go_enter Tryd.func50, Tryd.ntmps50
  go_wp2_with fail
  go_loopw [3] (fun i wr => ∃ k : Nat, k ≤ 16 ∧ i = .int .i64 (k : Int) ∧ Hid (∀ j, j < k → hexd j ≠ c) ∧ wr = w) (fun i _ => 16 - (intOf i).toNat)
  case atStart => exact ⟨0, by omega, rfl, fun j hj => by omega, rfl⟩
  case round =>
    obtain ⟨k, hk, rfl, HN, rfl⟩ := hrel
    by_cases hlt : k < 16
    · have hsz : k < (⟨#[48, 49, 50, 51, 52, 53, 54, 55, 56, 57, 97, 98, 99, 100, 101, 102]⟩ : ByteArray).size := hlt
      by_cases hd : hexd k = c
      · have hd2 : ((hexd k : Int) == (c : Int)) = true := by rw [hd]; simp
        have hfin : (k : Int) = hexi c := by rw [← hd]; unfold hexi; rw [hexv_hexd hlt, if_pos hlt]
        have HF := hide hfin
        clear hfin hd
        go_wp2
        go_ret
        exact ⟨by rw [← HF.out]; rfl, rfl⟩
      · have hd2 : ((hexd k : Int) == (c : Int)) = false := by simp; omega
        have HD : Hid (∀ j, j < k + 1 → hexd j ≠ c) := fun j hj => by
          by_cases hjk : j < k
          · exact HN.out j hjk
          · obtain rfl : j = k := by omega
            exact hd
        clear hd
        go_wp2
        exact ⟨⟨k + 1, by omega, by first | rfl | simp, HD, by first | rfl | trivial⟩, by simp [intOf]; omega⟩
    · obtain rfl : k = 16 := by omega
      have hfin : hexi c = -1 := by
        unfold hexi
        by_cases h : hexv c < 16
        · exact absurd (hexd_hexv h) (HN.out _ h)
        · rw [if_neg h]
      have HF := hide hfin
      clear hfin
      go_wp2
      go_ret
      exact ⟨by rw [HF.out]; rfl, rfl⟩

set_option maxRecDepth 100000 in
set_option maxHeartbeats 800000 in
theorem dhex_any (a : Option Addr) (len cap : Nat) (l : List Nat) (w : World) (hs : Bts w a len cap l) (hm : 2 * len ≤ 140737488355328) :
    Calls Tryd.prog 15 #[.slice a len cap] w fun e w' => e = .returned (.string (str (hexOf l))) ∧ Below w.heap.size w w' := by
  have HS := hide hs
  have HZ := hide hs.size
  have hw2 : IntKind.i64.wrap (2 * (len : Int)) = ((2 * len : Nat) : Int) := by rw [IntKind.wrap_i64]; omega
  have hdg := digs_at
  clear hs
  go_enter Tryd.func15, Tryd.ntmps15
  go_wp2_with (at_make; refine make_cap rfl (.const (.int .i64 0)) (.tmp 7) rfl _ (2 * len) rfl rfl (by first | rfl | omega | simp) hm ?_; intro w1 ho hb; have HO := hide ho; have HB := hide hb; clear ho hb)
  go_loopw [3, 4] (fun v i wr => ∃ k : Nat, k ≤ len ∧ i = .int .i64 (k : Int) ∧ Hid (Own wr w.heap.size v (hexOf (l.take k))) ∧ Hid (Below w.heap.size w wr)) (fun _ i _ => len - (intOf i).toNat)
  case atStart => exact ⟨0, by omega, rfl, HO, HB⟩
  case round =>
    obtain ⟨k, hk, rfl, HOR, HBR⟩ := hrel
    by_cases hlt : k < len
    · obtain ⟨b, off, rfl, c, hl, hc0⟩ := HS.out.cell k hlt
      have HC0 := hide hc0
      have hc : wr.cell? ⟨b, off + k, none⟩ = some (.int .u8 (c : Int)) := cell_below hc0 HBR.out
      clear hc0
      have hc8 : c < 256 := HS.out.small c (List.mem_of_getElem? hl)
      have HT := hide (hexOf_take hl)
      have hd : (c : Int) / 16 = ((c / 16 : Nat) : Int) := by omega
      have hd2 : Int.tdiv (c : Int) 16 = ((c / 16 : Nat) : Int) := by rw [Int.tdiv_eq_ediv_of_nonneg (by omega)]; omega
      have hr : (c : Int) % 16 = ((c % 16 : Nat) : Int) := by omega
      have hr2 : Int.tmod (c : Int) 16 = ((c % 16 : Nat) : Int) := by rw [Int.tmod_eq_emod_of_nonneg (by omega)]; omega
      obtain ⟨x, hx⟩ : ∃ x, c / 16 = x := ⟨_, rfl⟩
      obtain ⟨y, hy⟩ : ∃ y, c % 16 = y := ⟨_, rfl⟩
      rw [hx, hy] at HT
      rw [hx] at hd hd2
      rw [hy] at hr hr2
      have hx6 : x < 16 := by omega
      have hy6 : y < 16 := by omega
      have HX := hide (hexd_lt hx6)
      have HY := hide (hexd_lt hy6)
      have HLN : Hid ((hexOf (l.take k)).length + 2 ≤ 140737488355328) := by
        unfold Hid
        rw [hexOf_len, List.length_take, HZ.out]
        have : min k len ≤ k := Nat.min_le_left _ _
        omega
      have hwx : IntKind.u8.wrap (x : Int) = (x : Int) := by rw [IntKind.wrap_u8]; omega
      have hwy : IntKind.u8.wrap (y : Int) = (y : Int) := by rw [IntKind.wrap_u8]; omega
      clear hl hx hy
      have HA : Hid (Below wr.heap.size wr (wr.drew.alloc (.cells #[.int .u8 (hexd x : Int), .int .u8 (hexd y : Int)] 5))) := (Below.refl _ _).drew.alloc (Nat.le_refl _) _
      have HBB : Hid (Bts (wr.drew.alloc (.cells #[.int .u8 (hexd x : Int), .int .u8 (hexd y : Int)] 5)) (some ⟨wr.heap.size, 0, none⟩) 2 2 [hexd x, hexd y]) := two_bytes wr.drew (hexd x) (hexd y) HX.out HY.out 5
      have HOA : Hid (Own (wr.drew.alloc (.cells #[.int .u8 (hexd x : Int), .int .u8 (hexd y : Int)] 5)) w.heap.size u3 (hexOf (l.take k))) := HOR.out.frm (S := fun _ => False) (Frm.ofBelow HA.out) (fun _ _ h => h)
      have ix : (x : Int) < 16 := by omega
      have iy : (y : Int) < 16 := by omega
      have hxs : x < (⟨#[48, 49, 50, 51, 52, 53, 54, 55, 56, 57, 97, 98, 99, 100, 101, 102]⟩ : ByteArray).size := hx6
      have hys : y < (⟨#[48, 49, 50, 51, 52, 53, 54, 55, 56, 57, 97, 98, 99, 100, 101, 102]⟩ : ByteArray).size := hy6
      go_wp2_with fail
      go_region_held3 (fun wz => wz.cell? ⟨b, off + k, none⟩ = some (.int .u8 (c : Int))) (first | exact hc | exact cell_below hc HA.out | exact hold3)
        (first
          | (refine step_app rfl (.tmp 15) (.tmp 28) rfl w.heap.size u3 (hexOf (l.take k)) (by simp [Act.eval]) HOA.out (some ⟨wr.heap.size, 0, none⟩) 2 2 [hexd x, hexd y] (by simp [Act.eval]) HBB.out HLN.out (chain HBR.out HA.out).size ?_; intro v' w3 ho hf hn; have HO3 := hide ho; have HB3 : Hid (Below w.heap.size w w3) := (chain HBR.out HA.out).trans (hf.below (chain HBR.out HA.out).size (fun j e => (World.ownsRow.lt HOA.out j e).1)); have hold3 : w3.cell? ⟨b, off + k, none⟩ = some (.int .u8 (c : Int)) := cell_below HC0.out HB3.out; clear ho hf hn))
      all_goals go_wp2
      all_goals
        refine ⟨⟨k + 1, by omega, by first | rfl | simp, ?_, HB3⟩, by simp [intOf]; omega⟩
        unfold Hid
        rw [HT.out]
        exact HO3.out
    · obtain rfl : k = len := by omega
      have e1 : l.take k = l := by rw [← HZ.out]; exact List.take_length
      rw [e1] at HOR
      obtain ⟨a5, c5, rfl, hb5⟩ := HOR.out.shown (by rw [hexOf_len, HZ.out]; exact hm) (hexOf_small HS.out.small)
      have s1 := bts_string hb5
      clear hb5 e1
      generalize (hexOf l).length = n5 at *
      obtain ⟨Z, hZ⟩ : ∃ Z, str (hexOf l) = Z := ⟨_, rfl⟩
      rw [hZ] at s1
      have HZZ := hide hZ
      clear hZ
      go_wp2
      go_ret
      exact ⟨by rw [HZZ.out]; rfl, HBR.out⟩

theorem own_nil0 (w : World) (base : Nat) : Own w base (.slice none 0 0) [] := ⟨rfl, .inl ⟨rfl, rfl⟩⟩
theorem one_byteH (w : World) (c : Nat) (hc : c < 256) (t : TypeId) : Bts (w.alloc (.cells #[.int .u8 (c : Int)] t)) (some ⟨w.heap.size, 0, none⟩) 1 1 [c] := by
  refine ⟨rfl, by decide, by decide, fun x hx => by rw [List.mem_singleton.1 hx]; exact hc, fun e => by simp at e, fun k hk => ?_⟩
  obtain rfl : k = 0 := by omega
  exact ⟨_, _, rfl, c, rfl, (World.cell?_alloc_at _ _ _ _ rfl).trans rfl⟩
theorem i64_dig {x y : Nat} (hx : x < 16) (hy : y < 16) : IntKind.u8.wrap (16 * (x : Int) + (y : Int)) = ((x * 16 + y : Nat) : Int) := by rw [IntKind.wrap_u8]; omega
/-- What the document's Unhex answers. -/
def DUnh (w : World) (L : List Nat) (n : Nat) (e : Ending) (w' : World) : Prop :=
  ∃ (v : Value) (k : Nat) (q : Int), e = .returned (.tuple #[v, rerr (k : Int) q]) ∧ Below w.heap.size w w' ∧
    ((∃ i c : Nat, L[i]? = some c ∧ ¬ hexv c < 16 ∧ v = .slice none 0 0 ∧ k = 18 ∧ q = (i : Int) ∧ ∀ j c : Nat, j < i → L[j]? = some c → hexv c < 16) ∨
     ((∀ j c : Nat, j < n → L[j]? = some c → hexv c < 16) ∧ n % 2 = 1 ∧ v = .slice none 0 0 ∧ k = 1 ∧ q = (n : Int)) ∨
     ((∀ j c : Nat, j < n → L[j]? = some c → hexv c < 16) ∧ n % 2 = 0 ∧ k = 0 ∧ q = -1 ∧ Own w' w.heap.size v (unhexOf L)))

set_option maxRecDepth 100000 in
set_option maxHeartbeats 1600000 in
theorem dunhex_any (S : ByteArray) (n : Nat) (w : World) (hn : S.size = n) (hm : n ≤ 140737488351232) :
    Calls Tryd.prog 14 #[.string S] w fun e w' => DUnh w (bytesOf S) n e w' := by
  have HT := hide (two_alloc w (.int .i64 0) (.int .i64 0) 31)
  have HB0 : Hid (Below w.heap.size w (w.alloc (.cells #[.int .i64 0, .int .i64 0] 31))) := (Below.refl _ _).alloc (Nat.le_refl _) _
  have HZ0 : Hid (w.heap.size < (w.alloc (.cells #[.int .i64 0, .int .i64 0] 31)).heap.size) := by unfold Hid; simp
  have HN := hide hn
  go_enter Tryd.func14, Tryd.ntmps14
  go_wp2_with fail
  generalize w.alloc (.cells #[.int .i64 0, .int .i64 0] 31) = W0 at *
  go_loopw [4] (fun i wr => ∃ k : Nat, k ≤ n ∧ i = .int .i64 (k : Int) ∧ Hid (∀ j c : Nat, j < k → (bytesOf S)[j]? = some c → hexv c < 16) ∧ W0 = wr) (fun i _ => n - (intOf i).toNat)
  case atStart => exact ⟨0, by omega, rfl, fun j c hj => by omega, rfl⟩
  case round =>
    obtain ⟨k, hk, rfl, HV, rfl⟩ := hrel
    by_cases hlt : k < n
    · obtain ⟨c, hc⟩ : ∃ c, (bytesOf S)[k]? = some c := ⟨_, List.getElem?_eq_getElem (by rw [bytesOf_len, hn]; exact hlt)⟩
      have hc8 := bytesOf_lt S c (List.mem_of_getElem? hc)
      have hks : k < S.size := by omega
      have hck : S[k].toNat = c := str_at hks hc
      have HCC := hide hc
      clear hc
      go_wp2_with fail
      refine Calls.mono (rdigit_any c _ hc8) ?_
      rintro e w2 ⟨rfl, rfl⟩
      by_cases hv : hexv c < 16
      · have hi : ¬ hexi c < 0 := by unfold hexi; rw [if_pos hv]; omega
        generalize hexi c = z at *
        go_wp2
        refine ⟨⟨k + 1, by omega, by first | rfl | simp, fun j d hj hd => ?_, by first | rfl | trivial⟩, by simp [intOf]; omega⟩
        by_cases hjk : j < k
        · exact HV.out j d hjk hd
        · obtain rfl : j = k := by omega
          rw [HCC.out] at hd
          exact (Option.some.inj hd) ▸ hv
      · have hi : hexi c < 0 := by unfold hexi; rw [if_neg hv]; decide
        generalize hexi c = z at *
        have t0 := HT.out.c0
        have t1 := HT.out.c1
        have f0 := HT.out.f0
        have f1 := HT.out.f1
        go_wp2
        have q0 := (HT.out.set (.int .i64 18) (.int .i64 (k : Int))).c0
        have q1 := (HT.out.set (.int .i64 18) (.int .i64 (k : Int))).c1
        have HW := hide (bel_two (u := .int .i64 18) (v := .int .i64 (k : Int)) HB0.out (Nat.le_refl _))
        (try simp only [Exit.inBlock, Exit.then])
        refine bodyPost_ret (v := .tuple #[.slice none 0 0, rerr 18 (k : Int)]) (by simp [results, Tryd.results14, go_sem, q0, q1]; rfl) rfl ?_
        exact ⟨_, 18, (k : Int), rfl, HW.out, .inl ⟨k, c, HCC.out, hv, rfl, rfl, rfl, HV.out⟩⟩
    · obtain rfl : k = n := by omega
      have hmod : (k : Int) % 2 = ((k % 2 : Nat) : Int) := by omega
      have htm : Int.tmod (k : Int) 2 = ((k % 2 : Nat) : Int) := by rw [Int.tmod_eq_emod_of_nonneg (by omega)]; omega
      by_cases hodd : k % 2 = 1
      · rw [hodd] at htm hmod
        have t0 := HT.out.c0
        have t1 := HT.out.c1
        have f0 := HT.out.f0
        have f1 := HT.out.f1
        have HODD := hide hodd
        clear hodd
        go_wp2
        have q0 := (HT.out.set (.int .i64 1) (.int .i64 (k : Int))).c0
        have q1 := (HT.out.set (.int .i64 1) (.int .i64 (k : Int))).c1
        have HW := hide (bel_two (u := .int .i64 1) (v := .int .i64 (k : Int)) HB0.out (Nat.le_refl _))
        (try simp only [Exit.inBlock, Exit.then])
        refine bodyPost_ret (v := .tuple #[.slice none 0 0, rerr 1 (k : Int)]) (by simp [results, Tryd.results14, go_sem, q0, q1]; rfl) rfl ?_
        exact ⟨_, 1, (k : Int), rfl, HW.out, .inr (.inl ⟨HV.out, HODD.out, rfl, rfl, rfl⟩)⟩
      · have hev : k % 2 = 0 := by omega
        rw [hev] at htm hmod
        have HEV := hide hev
        clear hodd hev
        go_wp2_with fail
        go_loopw [5, 6] (fun v i wr => ∃ q : Nat, 2 * q ≤ k ∧ i = .int .i64 ((2 * q : Nat) : Int) ∧ Hid (Own wr W0.heap.size v ((unhexOf (bytesOf S)).take q)) ∧ Hid (Below W0.heap.size W0 wr)) (fun _ i _ => k - (intOf i).toNat)
        case atStart => exact ⟨0, by omega, rfl, own_nil0 _ _, Below.refl _ _⟩
        case round =>
          obtain ⟨q, hq, rfl, HO, HBQ⟩ := hrel
          obtain ⟨r, hr⟩ : ∃ r, 2 * q = r := ⟨_, rfl⟩
          obtain ⟨r1, hr1⟩ : ∃ r1, r + 1 = r1 := ⟨_, rfl⟩
          rw [hr]
          have HRQ := hide hr
          by_cases hlt2 : r < k
          · have hev := HEV.out
            have hr1k : r1 < k := by omega
            obtain ⟨c, hc⟩ : ∃ c, (bytesOf S)[r]? = some c := ⟨_, List.getElem?_eq_getElem (by rw [bytesOf_len, hn]; exact hlt2)⟩
            obtain ⟨d, hd⟩ : ∃ d, (bytesOf S)[r1]? = some d := ⟨_, List.getElem?_eq_getElem (by rw [bytesOf_len, hn]; exact hr1k)⟩
            have hc8 := bytesOf_lt S c (List.mem_of_getElem? hc)
            have hd8 := bytesOf_lt S d (List.mem_of_getElem? hd)
            have hks : r < S.size := by omega
            have hck : S[r].toNat = c := str_at hks hc
            have hks1 : r1 < S.size := by omega
            have hck1 : S[r1].toNat = d := str_at hks1 hd
            have hvc : hexv c < 16 := HV.out r c hlt2 hc
            have hvd : hexv d < 16 := HV.out r1 d hr1k hd
            obtain ⟨m1, hm1⟩ : ∃ m1, 16 * hexv c = m1 := ⟨_, rfl⟩
            obtain ⟨z, hz⟩ : ∃ z, hexv c * 16 + hexv d = z := ⟨_, rfl⟩
            have HUN : Hid ((unhexOf (bytesOf S)).take (q + 1) = (unhexOf (bytesOf S)).take q ++ [z]) := by
              unfold Hid
              rw [List.take_add_one, unhexOf_at (bytesOf S) q c d (by rw [hr]; exact hc) (by rw [hr, hr1]; exact hd), ← hz]
              rfl
            have HLN : Hid (((unhexOf (bytesOf S)).take q).length + 1 ≤ 140737488355328) := by unfold Hid; rw [List.length_take]; omega
            have hz8 : z < 256 := by omega
            have HZ8 := hide hz8
            have DC := hide (fun wx => rdigit_any c wx hc8)
            have DD := hide (fun wx => rdigit_any d wx hd8)
            have hxc : hexi c = (hexv c : Int) := by unfold hexi; rw [if_pos hvc]
            have hxd : hexi d = (hexv d : Int) := by unfold hexi; rw [if_pos hvd]
            rw [hxc] at DC
            rw [hxd] at DD
            have e1 : (16 : Int) * (hexv c : Int) = (m1 : Int) := by omega
            have e1w : IntKind.i64.wrap (m1 : Int) = (m1 : Int) := by rw [IntKind.wrap_i64]; omega
            have e2 : (m1 : Int) + (hexv d : Int) = (z : Int) := by omega
            have e2w : IntKind.i64.wrap (z : Int) = (z : Int) := by rw [IntKind.wrap_i64]; omega
            have e3w : IntKind.u8.wrap (z : Int) = (z : Int) := by rw [IntKind.wrap_u8]; omega
            have e4 : (r : Int) + 1 = (r1 : Int) := by omega
            have e4w : IntKind.i64.wrap (r1 : Int) = (r1 : Int) := by rw [IntKind.wrap_i64]; omega
            have hrk : (r : Int) < (k : Int) := by omega
            have hr1k2 : (r1 : Int) < (k : Int) := by omega
            have HQ2 : Hid (r + 2 = 2 * (q + 1) ∧ 2 * (q + 1) ≤ k) := by unfold Hid; omega
            have HA : Hid (Below wr.heap.size wr (wr.drew.alloc (.cells #[.int .u8 (z : Int)] 5))) := (Below.refl _ _).drew.alloc (Nat.le_refl _) _
            have HBB : Hid (Bts (wr.drew.alloc (.cells #[.int .u8 (z : Int)] 5)) (some ⟨wr.heap.size, 0, none⟩) 1 1 [z]) := one_byteH wr.drew z hz8 5
            have HOA : Hid (Own (wr.drew.alloc (.cells #[.int .u8 (z : Int)] 5)) W0.heap.size u5 ((unhexOf (bytesOf S)).take q)) := HO.out.frm (S := fun _ => False) (Frm.ofBelow HA.out) (fun _ _ h => h)
            clear hc hd hc8 hd8 hvc hvd hm1 hz hxc hxd hr hr1 hev hq hz8 hmod htm
            generalize hexv c = x at *
            generalize hexv d = y at *
            go_wp2_with fail
            go_region_held3 (fun _ => True) (trivial)
              (first
                | (go_at_call 50; with_reducible refine (DC.out _).mono ?_; rintro e w2 ⟨rfl, rfl⟩)
                | (go_at_call 50; with_reducible refine (DD.out _).mono ?_; rintro e w2 ⟨rfl, rfl⟩)
                | (refine step_app rfl (.tmp 33) (.tmp 46) rfl W0.heap.size u5 ((unhexOf (bytesOf S)).take q) (by simp [Act.eval]) HOA.out (some ⟨wr.heap.size, 0, none⟩) 1 1 [z] (by simp [Act.eval]) HBB.out HLN.out (chain HBQ.out HA.out).size ?_; intro v' w3 ho hf hn; rw [← HUN.out] at ho; have HO3 := hide ho; have HB3 : Hid (Below W0.heap.size W0 w3) := (chain HBQ.out HA.out).trans (hf.below (chain HBQ.out HA.out).size (fun j e => (World.ownsRow.lt HOA.out j e).1)); clear ho hf hn))
            all_goals go_wp2
            all_goals
              obtain ⟨g1, g2⟩ := HQ2.out
              refine ⟨⟨q + 1, g2, ?_, HO3, HB3⟩, by simp [intOf]; omega⟩
              rw [← g1]
              first | rfl | simp
          · have hre : r = k := by omega
            have HUL : Hid ((unhexOf (bytesOf S)).take q = unhexOf (bytesOf S)) := by
              unfold Hid
              refine List.take_of_length_le ?_
              rw [unhexOf_len, bytesOf_len, hn]
              omega
            subst hre
            rw [HUL.out] at HO
            clear hr1 hq htm hmod
            go_wp2_with fail
            refine Calls.mono (rnone_any _) ?_
            rintro e w4 ⟨rfl, hb4⟩
            have HT4 := hide ((HT.out.below HBQ.out).below hb4)
            have HB4 := hide (chain (chain HB0.out HBQ.out) hb4)
            have HO4 := hide (HO.out.frm (S := fun _ => False) (Frm.ofBelow hb4) (fun _ _ h => h))
            have t0 := HT4.out.c0
            have t1 := HT4.out.c1
            have f0 := HT4.out.f0
            have f1 := HT4.out.f1
            clear hb4
            unfold rerr
            go_wp2
            have q0 := (HT4.out.set (.int .i64 0) (.int .i64 (-1))).c0
            have q1 := (HT4.out.set (.int .i64 0) (.int .i64 (-1))).c1
            have hne : ∀ j, u5.ownBlock = some j → ¬ j = w.heap.size := fun j hj => by have := (World.ownsRow.lt HO4.out j hj).1; have := HZ0.out; omega
            have HO5 := hide ((HO4.out.frm (frm_setCell w4 ⟨w.heap.size, 0, none⟩ (.int .i64 0)) (fun j hj (e : j = w.heap.size) => hne j hj e)).frm (frm_setCell _ ⟨w.heap.size, 1, none⟩ (.int .i64 (-1))) (fun j hj (e : j = w.heap.size) => hne j hj e))
            have HW := hide (bel_two (u := .int .i64 0) (v := .int .i64 (-1)) HB4.out (Nat.le_refl _))
            (try simp only [Exit.inBlock, Exit.then])
            refine bodyPost_ret (v := .tuple #[u5, rerr 0 (-1)]) (by simp [results, Tryd.results14, go_sem, q0, q1]; rfl) rfl ?_
            exact ⟨_, 0, -1, rfl, HW.out, .inr (.inr ⟨HV.out, HEV.out, rfl, rfl, HO5.out.wk (base' := w.heap.size) (by have := HZ0.out; omega)⟩)⟩
end Go.Proofs.YtohoncgkekiihaaDoor
namespace Go.Proofs.YtohoncgkekiihaaDoor
open Go.RowKit FerryCrc
set_option linter.unusedVariables false
set_option linter.unusedSimpArgs false

set_option maxRecDepth 100000 in
set_option maxHeartbeats 800000 in
theorem djoin_all (a : Option Addr) (len cap : Nat) (rs : List JW) (w : World) (hs : Rcs JW.cells 2 w a len cap rs) (hok : ∀ r ∈ rs, Bts w r.a r.n r.c r.l) (hl : jroom rs ≤ 140737488351232) (hm : len ≤ 140737488355328) :
    Calls Tryd.prog 11 #[.slice a len cap] w fun e w' => DDone w (jfold rs).1 (jfold rs).2 e w' := by
  unfold DDone
  obtain ⟨M, hM⟩ : ∃ M, (if (jfold rs).1 = 0 then (jfold rs).2 else []) = M := ⟨_, rfl⟩
  rw [hM]
  obtain ⟨q, hq⟩ : ∃ q, dq (jfold rs).1 (jfold rs).2 = q := ⟨_, rfl⟩
  obtain ⟨jk, hjk⟩ : ∃ jk, (jfold rs).1 = jk := ⟨_, rfl⟩
  rw [hq, hjk]
  have HM := hide hM
  have HQ := hide hq
  have HJK := hide hjk
  clear hM hq hjk
  have HS := hide hs
  have HK := hide hok
  have HL := hide hl
  have HZ := hide hs.size
  have HT := hide (two_alloc w (.int .i64 0) (.int .i64 0) 31)
  have HB0 : Hid (Below w.heap.size w (w.alloc (.cells #[.int .i64 0, .int .i64 0] 31))) := (Below.refl _ _).alloc (Nat.le_refl _) _
  have HZ0 : Hid (w.heap.size < (w.alloc (.cells #[.int .i64 0, .int .i64 0] 31)).heap.size) := by unfold Hid; simp
  clear hs hok
  go_enter Tryd.func11, Tryd.ntmps11
  go_wp2_with fail
  generalize w.alloc (.cells #[.int .i64 0, .int .i64 0] 31) = W0 at *
  refine Calls.mono (dnew_any W0) ?_
  rintro e w1 ⟨D, hD, rfl, hw, hb⟩
  have HW := hide hw
  have HT1 := hide (HT.out.below hb)
  have HD : Hid (w.heap.size < D) := by unfold Hid; have := HZ0.out; omega
  have HB := hide (chain HB0.out hb)
  clear hw hb hD HT HB0
  go_wp2_with fail
  go_loopw [5] (fun i wr => ∃ (k : Nat) (v : Value), k ≤ len ∧ i = .int .i64 (k : Int) ∧ Hid (DW wr D v (jfold (rs.take k)).1 (dq (jfold (rs.take k)).1 (jfold (rs.take k)).2) (jfold (rs.take k)).2) ∧ Hid ((jfold (rs.take k)).1 ≤ 20 ∧ (jfold (rs.take k)).2.length ≤ jroom (rs.take k)) ∧ Hid (Two wr w.heap.size (.int .i64 0) (.int .i64 0)) ∧ Hid (Below w.heap.size w wr)) (fun i _ => len - (intOf i).toNat)
  case atStart => exact ⟨0, _, by omega, rfl, HW, ⟨by simp [jfold], by simp [jfold]⟩, HT1, HB⟩
  case round =>
    obtain ⟨k, v, hk, rfl, HWR, HKL, HTR, HBR⟩ := hrel
    by_cases hlt : k < len
    · obtain ⟨r, hr⟩ : ∃ r, rs[k]? = some r := ⟨_, List.getElem?_eq_getElem (by rw [HZ.out]; exact hlt)⟩
      obtain ⟨b, off, rfl, hcell⟩ := HS.out.at JW.len (by decide) hr
      have M0 : Hid (w.cell? ⟨b, off + k * 2, none⟩ = some (.int .i64 r.tag)) := hcell 0 _ rfl
      have M1 : Hid (w.cell? ⟨b, off + k * 2 + 1, none⟩ = some (.slice r.a r.n r.c)) := hcell 1 _ rfl
      have k0 : wr.cell? ⟨b, off + k * 2, none⟩ = some (.int .i64 r.tag) := cell_below2 (hcell 0 _ rfl) HBR.out
      have k1 : wr.cell? ⟨b, off + k * 2 + 1, none⟩ = some (.slice r.a r.n r.c) := cell_below2 (hcell 1 _ rfl) HBR.out
      have HR := hide (HK.out r (List.mem_of_getElem? hr))
      have HT := hide (jfold_take hr)
      have HRM := hide (jroom_take hr)
      have HRL := hide (jroom_le rs (k + 1))
      have HKL2 : Hid ((jfold (rs.take (k + 1))).1 ≤ 20 ∧ (jfold (rs.take (k + 1))).2.length ≤ jroom (rs.take (k + 1))) := by
        unfold Hid
        rw [HT.out, HRM.out]
        obtain ⟨p1, p2⟩ := rput_len r.tag r.l
        obtain ⟨p3, p4⟩ := HKL.out
        unfold aft
        split
        · exact ⟨p1, by show List.length (_ ++ _) ≤ _; rw [List.length_append]; omega⟩
        · exact ⟨p3, by show (jfold (rs.take k)).2.length ≤ _; omega⟩
      clear hcell hr
      have HDW : Hid (Below wr.heap.size wr wr.drew) := (Below.refl _ _).drew
      have HCAL := hide (drecord_all D v _ _ r.tag r.a r.n r.c r.l wr.drew (HWR.out.below HDW.out) ((HR.out.below HBR.out).below HDW.out) (by have h1 := HR.out.size; have h2 := HKL.out.2; have h3 := HRM.out; have h4 := HRL.out; have h5 := HL.out; omega))
      go_wp2_with fail
      go_region_held3 (fun wz => wz.cell? ⟨b, off + k * 2, none⟩ = some (.int .i64 r.tag) ∧ wz.cell? ⟨b, off + k * 2 + 1, none⟩ = some (.slice r.a r.n r.c)) (first | exact ⟨k0, k1⟩ | exact ⟨cell_below2 M0.out HB3.out, cell_below2 M1.out HB3.out⟩)
        (first
          | (go_at_call 44; refine HCAL.out.mono ?_; rintro e w3 ⟨rfl, v3, q1, q2, q3⟩; rw [← HT.out] at q1; have HW3 := hide q1; have HF3 := hide ((Frm.ofBelow (S := WS D v) HDW.out).trans q2 (fun j _ t => t)); have HB3 := hide (HBR.out.trans (HF3.out.below HBR.out.size (fun j t => by rcases t with t | t; have := HD.out; omega; have := (HWR.out.blk j t).1; have := HD.out; omega))); clear q1 q2 q3))
      rename_i hheld
      clear hheld
      have HT3 := hide (HTR.out.frm HF3.out (fun t => by rcases t with t | t; have := HD.out; omega; have := (HWR.out.blk _ t).1; have := HD.out; omega))
      go_wp2
      exact ⟨⟨k + 1, v3, by omega, by first | rfl | simp, HW3, HKL2, HT3, HB3⟩, by simp [intOf]; omega⟩
    · obtain rfl : k = len := by omega
      have e1 : rs.take k = rs := by rw [← HZ.out]; exact List.take_length
      rw [e1] at HWR HKL
      clear e1
      go_wp2_with fail
      refine Calls.mono (ddone_all D v _ _ wr HWR.out (by have := HKL.out.2; have := HL.out; omega)) ?_
      rintro e w4 ⟨v4, rfl, ho, hb⟩
      rw [HM.out] at ho
      rw [HQ.out, HJK.out]
      have HT4 := hide (HTR.out.below hb)
      have HB4 := hide (chain HBR.out hb)
      have HO4 := hide ho
      have t0 := HT4.out.c0
      have t1 := HT4.out.c1
      have f0 := HT4.out.f0
      have f1 := HT4.out.f1
      have HLT : Hid (w.heap.size < wr.heap.size) := block_lt_of_cell HTR.out.c0
      clear ho hb
      unfold rerr
      go_wp2
      have q0 := (HT4.out.set (.int .i64 (jk : Int)) (.int .i64 q)).c0
      have q1 := (HT4.out.set (.int .i64 (jk : Int)) (.int .i64 q)).c1
      have hne : ∀ j, v4.ownBlock = some j → ¬ j = w.heap.size := fun j hj => by have := (World.ownsRow.lt HO4.out j hj).1; have := HLT.out; omega
      have HO5 := hide ((HO4.out.frm (frm_setCell w4 ⟨w.heap.size, 0, none⟩ (.int .i64 (jk : Int))) (fun j hj (e : j = w.heap.size) => hne j hj e)).frm (frm_setCell _ ⟨w.heap.size, 1, none⟩ (.int .i64 q)) (fun j hj (e : j = w.heap.size) => hne j hj e))
      have HW5 := hide (bel_two (u := .int .i64 (jk : Int)) (v := .int .i64 q) HB4.out (Nat.le_refl _))
      (try simp only [Exit.inBlock, Exit.then])
      refine bodyPost_ret (v := .tuple #[v4, rerr (jk : Int) q]) (by simp [results, Tryd.results11, go_sem, q0, q1]; rfl) rfl ?_
      exact ⟨_, rfl, HO5.out.wk (base' := w.heap.size) (by have := HLT.out; omega), HW5.out⟩
end Go.Proofs.YtohoncgkekiihaaDoor
namespace Go.Proofs.YtohoncgkekiihaaDoor
open Go.RowKit FerryCrc
set_option linter.unusedVariables false
set_option linter.unusedSimpArgs false

theorem own_emptyI (w : World) : IvOwn (w.alloc (.cells #[] 3)) w.heap.size (.slice (some ⟨w.heap.size, 0, none⟩) 0 0) [] :=
  World.ownsRow_lit w #[] 0 (Nat.le_refl _) (by decide) rfl
theorem flat_iv (ts : List Int) : ts.flatMap (fun t : Int => [Value.int .i64 t]) = ts.map (Value.int .i64 ·) := by
  induction ts with
  | nil => rfl
  | cons t ts ih => rw [List.flatMap_cons, ih]; rfl
theorem iv_frm {S : Nat → Prop} {w w' : World} {base : Nat} {v : Value} {ts : List Int} (h : IvOwn w base v ts) (hf : Frm S w w') (hS : ∀ k, v.ownBlock = some k → ¬ S k) : IvOwn w' base v ts := by
  refine ⟨h.1, ?_⟩
  rcases h.2 with e | ⟨g, cap, cur, e, hg, hh, r⟩
  · exact .inl e
  · refine .inr ⟨g, cap, cur, e, hg, ?_, r⟩
    rw [hf.block g (Array.getElem?_eq_some_iff.1 hh).1 (hS g (by rw [e]; rfl))]
    exact hh
theorem step_ivs {w : World} {ops : Array Oper} {o : Oper} {act : Act} {K : Act → World → Prop} {Q : Exit → Act → World → Prop} {EE : Prop} (hgd : o.guard = none) (s x : Operand)
    (ho : o.op = .call { callee := .builtin .append, args := #[s, x], argTypes := #[24, 24] })
    (base g : Nat) (hs : act.eval s = .slice (some ⟨g, 0, none⟩) 0 0) (hown : IvOwn w base (.slice (some ⟨g, 0, none⟩) 0 0) [])
    (a : Option Addr) (m c : Nat) (ts : List Int) (hx : act.eval x = .slice a m c) (hb : Rcs (fun t : Int => [.int .i64 t]) 1 w a m c ts)
    (h63 : m ≤ 4398046511104) (hbase : base ≤ w.heap.size)
    (h : ∀ a' c' w', Rcs (fun t : Int => [.int .i64 t]) 1 w' a' m c' ts → Frm (fun k => k = g) w w' → K (act.put o.dst (.slice a' m c')) w') :
    if Region.wanted o (yielded ops act.tmps) = true then Oper.wp Tryd.prog o act w K Q else EE := by
  obtain ⟨i, z, hi, hz, hsz, hby, hzs⟩ := infoInt
  by_cases hm : m = 0
  · subst hm
    have hw : Region.wanted o (yielded ops act.tmps) = true := by simp [Region.wanted, hgd]
    rw [if_pos hw]
    obtain rfl : ts = [] := List.length_eq_zero_iff.1 hb.size
    have hrun := run_append_empty (P := Tryd.prog) w 24 o.type 3 i Tryd.underlying24 hi (some ⟨g, 0, none⟩) a 0 0 c (Nat.le_refl _)
    have hK := h (some ⟨g, 0, none⟩) 0 w ⟨rfl, rfl, by decide, fun e => by simp at e, fun j v hv => by simp at hv⟩ (Frm.refl _ _)
    unfold Oper.wp
    simp [execOp, ho, resolve, invoke, builtin, hs, hx, hrun, Result.andThen]
    exact hK
  · match a, hx, hb with
    | none, hx, hb => exact absurd (hb.row.null rfl).1 hm
    | some ad, hx, hb =>
      refine step_append_lies w hgd s x 24 ho base 3 i z 1 8 Tryd.underlying24 hi hz hsz hby hzs (by decide) _ 0 [] hs hown ad m c (ts.map (Value.int .i64 ·)) hx (by rw [List.length_map, hb.size]; omega) ?_ ?_ (by omega) (by unfold maxLen; omega) (by omega) hbase _ rfl ?_
      · intro j u hu
        rw [← flat_iv] at hu
        obtain ⟨b, off, e, hc⟩ := hb.row.cell j u hu
        simp only [Option.some.injEq] at e
        subst e
        rw [add_none]
        exact hc
      · intro u hu
        obtain ⟨t, _, rfl⟩ := List.mem_map.1 hu
        rfl
      · intro g' cap w' h1 h2 h3 h4
        rw [Nat.zero_add, List.nil_append] at h1
        rw [Nat.zero_add]
        obtain ⟨a', c', e, hr⟩ := RLk.row (.inl h1)
        simp only [Value.slice.injEq, true_and] at e
        obtain ⟨rfl, rfl⟩ := e
        refine h _ _ w' ⟨hb.size, by rw [flat_iv]; exact hr⟩ ?_
        exact (frm_grown h2).mono (fun j _ e => by
          have e : some g = some j := e
          simp only [Option.some.injEq] at e
          exact e.symm)
theorem iv_keep {w w' : World} {base g h : Nat} (hi : IvOwn w base (.slice (some ⟨h, 0, none⟩) 0 0) []) (hf : Frm (fun k => (Value.slice (some ⟨g, 0, none⟩) 0 0).ownBlock = some k) w w') (hne : g ≠ h) : IvOwn w' base (.slice (some ⟨h, 0, none⟩) 0 0) [] :=
  iv_frm hi hf (fun k e t => by
    have e : some h = some k := e
    have t : some g = some k := t
    simp only [Option.some.injEq] at e t
    omega)
theorem own_keep {g h N : Nat} {v : Value} (hq : ∀ k, v.ownBlock = some k → (Value.slice (some ⟨g, 0, none⟩) 0 0).ownBlock = some k ∨ N ≤ k) (hne : g ≠ h) (hN : h < N) : ∀ k, v.ownBlock = some k → ¬ k = h := fun k hk => by
  rcases hq k hk with e | e
  · have e : some g = some k := e
    simp only [Option.some.injEq] at e
    omega
  · omega
theorem own_bts {S : Nat → Prop} {w w' : World} {base n c : Nat} {a : Option Addr} {l : List Nat} (ho : Own w base (.slice a n c) l) (hf : Frm S w w') (hne : ∀ k, (Value.slice a n c).ownBlock = some k → ¬ S k) (hm : l.length ≤ 140737488355328) (hs : ∀ x ∈ l, x < 256) : Bts w' a n c l := by
  obtain ⟨a', c', e, hx⟩ := (ho.frm hf hne).shown hm hs
  simp only [Value.slice.injEq] at e
  obtain ⟨rfl, rfl, rfl⟩ := e
  exact hx
end Go.Proofs.YtohoncgkekiihaaDoor
namespace Go.Proofs.YtohoncgkekiihaaDoor
open Go.RowKit FerryCrc
set_option linter.unusedVariables false
set_option linter.unusedSimpArgs false

theorem stk_det {L : List Nat} {p bd i j i' j' : Nat} (h : Stk L p bd i j) (h' : Stk L p bd i' j') : i = i' ∧ j = j' := by
  rcases h with ⟨a1, rfl, rfl⟩ | ⟨a1, a2, rfl, rfl⟩ | ⟨a1, a2, a3, rfl, rfl⟩ <;> rcases h' with ⟨b1, rfl, rfl⟩ | ⟨b1, b2, rfl, rfl⟩ | ⟨b1, b2, b3, rfl, rfl⟩
  · exact ⟨rfl, rfl⟩
  · omega
  · omega
  · omega
  · exact ⟨rfl, rfl⟩
  · exact absurd a2 b2
  · omega
  · exact absurd b2 a2
  · exact ⟨rfl, rfl⟩
theorem stk_uniq {L : List Nat} {bd : Nat} : ∀ (rs rs' : List (Nat × List Nat)) (p q q' i j i' j' : Nat), Pars L bd p rs q → Stk L q bd i j → Pars L bd p rs' q' → Stk L q' bd i' j' → i = i' ∧ j = j'
  | [], [], p, q, q', i, j, i', j', h, hs, h', hs' => by
    have e : p = q := h
    have e' : p = q' := h'
    subst e e'
    exact stk_det hs hs'
  | [], r :: rs', p, q, q', i, j, i', j', h, hs, h', hs' => by
    have e : p = q := h
    subst e
    obtain ⟨n, h1, _⟩ := h'
    exact (rec_not_stk h1 hs).elim
  | r :: rs, [], p, q, q', i, j, i', j', h, hs, h', hs' => by
    have e : p = q' := h'
    subst e
    obtain ⟨n, h1, _⟩ := h
    exact (rec_not_stk h1 hs').elim
  | (t, l) :: rs, (t', l') :: rs', p, q, q', i, j, i', j', h, hs, h', hs' => by
    obtain ⟨n, h1, _, h3⟩ := h
    obtain ⟨n', h1', _, h3'⟩ := h'
    simp only at h1 h1'
    obtain ⟨rfl, rfl⟩ := rec_uniq h1 h1'
    exact stk_uniq rs rs' _ q q' i j i' j' h3 hs h3' hs'
theorem stk_code {L : List Nat} {p bd i j : Nat} (h : Stk L p bd i j) : 1 ≤ i ∧ i ≤ 20 := by
  rcases h with ⟨_, rfl, _⟩ | ⟨_, _, rfl, _⟩ | ⟨_, _, _, rfl, _⟩ <;> decide

theorem unh_both {wD wP : World} {bD bP : Nat} {E : Nat → Addr} {L : List Nat} {n : Nat} {v v' ev : Value} {k : Nat} {q : Int} (hn : L.length = n)
    (hD : (∃ i c : Nat, L[i]? = some c ∧ ¬ hexv c < 16 ∧ v = .slice none 0 0 ∧ k = 18 ∧ q = (i : Int) ∧ ∀ j c : Nat, j < i → L[j]? = some c → hexv c < 16) ∨
      ((∀ j c : Nat, j < n → L[j]? = some c → hexv c < 16) ∧ n % 2 = 1 ∧ v = .slice none 0 0 ∧ k = 1 ∧ q = (n : Int)) ∨
      ((∀ j c : Nat, j < n → L[j]? = some c → hexv c < 16) ∧ n % 2 = 0 ∧ k = 0 ∧ q = -1 ∧ Own wD bD v (unhexOf L)))
    (hP : (∃ i c : Nat, L[i]? = some c ∧ ¬ hexv c < 16 ∧ v' = .slice none 0 0 ∧ AtErr wP bP ev (E 18) (i : Int) ∧ ∀ j c : Nat, j < i → L[j]? = some c → hexv c < 16) ∨
      ((∀ j c : Nat, j < n → L[j]? = some c → hexv c < 16) ∧ n % 2 = 1 ∧ v' = .slice none 0 0 ∧ AtErr wP bP ev (E 1) (n : Int)) ∨
      ((∀ j c : Nat, j < n → L[j]? = some c → hexv c < 16) ∧ n % 2 = 0 ∧ ev = .nilIface ∧ Own wP bP v' (unhexOf L))) :
    ∃ M : List Nat, IsErr wP E ev k q ∧ Own wD bD v M ∧ Own wP bP v' M ∧ M.length ≤ n ∧ ∀ c ∈ M, c < 256 := by
  rcases hD with ⟨i, c, d1, d2, rfl, rfl, rfl, d3⟩ | ⟨d1, d2, rfl, rfl, rfl⟩ | ⟨d1, d2, rfl, rfl, d3⟩
  · have hil : i < n := by have := (List.getElem?_eq_some_iff.1 d1).1; omega
    rcases hP with ⟨i', c', p1, p2, rfl, p3, p4⟩ | ⟨p1, _⟩ | ⟨p1, _⟩
    · have e : i = i' := by
        rcases Nat.lt_trichotomy i i' with h | h | h
        · exact absurd (p4 i c h d1) d2
        · exact h
        · exact absurd (d3 i' c' h p1) p2
      subst e
      exact ⟨[], at_isErr p3 (by decide) (by decide), own_nil0 _ _, own_nil0 _ _, Nat.zero_le _, fun c hc => by simp at hc⟩
    · exact absurd (p1 i c hil d1) d2
    · exact absurd (p1 i c hil d1) d2
  · rcases hP with ⟨i', c', p1, p2, _⟩ | ⟨_, _, rfl, p3⟩ | ⟨_, p2, _⟩
    · have hil : i' < n := by have := (List.getElem?_eq_some_iff.1 p1).1; omega
      exact absurd (d1 i' c' hil p1) p2
    · exact ⟨[], at_isErr p3 (by decide) (by decide), own_nil0 _ _, own_nil0 _ _, Nat.zero_le _, fun c hc => by simp at hc⟩
    · omega
  · rcases hP with ⟨i', c', p1, p2, _⟩ | ⟨_, p2, _⟩ | ⟨_, _, rfl, p3⟩
    · have hil : i' < n := by have := (List.getElem?_eq_some_iff.1 p1).1; omega
      exact absurd (d1 i' c' hil p1) p2
    · omega
    · refine ⟨unhexOf L, .inl ⟨rfl, rfl, rfl⟩, d3, p3, by rw [unhexOf_len]; omega, unhexOf_small _ (fun c hc => ?_)⟩
      obtain ⟨j, hj⟩ := List.mem_iff_getElem?.1 hc
      exact d1 j c (by have := (List.getElem?_eq_some_iff.1 hj).1; omega) hj

/-- What the document's Split comes to: a list of records of the call's own, or where it got stuck. -/
def SplD (w : World) (b : Nat) (L : List Nat) (len : Nat) (aD : Option Addr) (n cD k : Nat) (q : Int) : Prop :=
  (∃ rs ps, Pars L len 0 ps len ∧ rs.map JW.key = ps.map upk ∧ k = 0 ∧ q = -1 ∧ n = rs.length ∧ DwOwn w b (.slice aD n cD) rs ∧ (∀ r ∈ rs, r.l.length ≤ 140737488355328 ∧ ∀ c ∈ r.l, c < 256)) ∨
  (∃ ps p i j, Pars L len 0 ps p ∧ p < len ∧ Stk L p len i j ∧ k = i ∧ q = (j : Int) ∧ aD = none ∧ n = 0 ∧ cD = 0)
theorem SplD.frm {S : Nat → Prop} {w w' : World} {b len n cD k : Nat} {L : List Nat} {aD : Option Addr} {q : Int} (h : SplD w b L len aD n cD k q) (hf : Frm S w w') (hS : ∀ k, b ≤ k → ¬ S k) : SplD w' b L len aD n cD k q := by
  rcases h with ⟨rs, ps, h1, h2, h3, h4, h5, h6, h7⟩ | h
  · exact .inl ⟨rs, ps, h1, h2, h3, h4, h5, h6.frm hf hS, h7⟩
  · exact .inr h
theorem split_both {L : List Nat} {len : Nat} {wD : World} {bD : Nat} {eD : Ending} (hL : L.length = len) (hs : ∀ c ∈ L, c < 256)
    (hD : (∃ rs v ps, Pars L len 0 ps len ∧ rs.map JW.key = ps.map upk ∧ eD = .returned (.tuple #[v, rerr 0 (-1)]) ∧ DwOwn wD bD v rs) ∨
       (∃ ps p i q, Pars L len 0 ps p ∧ p < len ∧ Stk L p len i q ∧ eD = .returned (.tuple #[.slice none 0 0, rerr (i : Int) (q : Int)]))) :
    ∃ (aD : Option Addr) (n cD k : Nat) (q : Int), eD = .returned (.tuple #[.slice aD n cD, rerr (k : Int) q]) ∧ n ≤ len ∧ SplD wD bD L len aD n cD k q := by
  rcases hD with ⟨rs, v, ps, h1, h2, h3, h4⟩ | ⟨ps, p, i, q, h1, h2, h3, h4⟩
  · obtain ⟨g1, g2⟩ := join_pars _ L len 0 hL hs h1
    rw [List.drop_zero] at g1
    have hsz : ∀ r ∈ rs, r.l.length ≤ 140737488355328 ∧ ∀ c ∈ r.l, c < 256 := fun r hr => by
      have h5 : r.key ∈ ps.map upk := by rw [← h2]; exact List.mem_map.2 ⟨r, hr, rfl⟩
      obtain ⟨x, hx, e⟩ := List.mem_map.1 h5
      have e2 : x.2 = r.l := congrArg Prod.snd e
      rw [← e2]
      have := (g2 x hx).2.2
      refine ⟨by omega, fun c hc => hs c ?_⟩
      rw [g1]
      exact List.mem_flatMap.2 ⟨x, hx, List.mem_cons_of_mem _ (List.mem_append.2 (.inr hc))⟩
    obtain ⟨a, c, rfl, g3, g4⟩ := h4.shows hsz
    refine ⟨a, _, c, 0, -1, h3, ?_, .inl ⟨rs, ps, h1, h2, rfl, rfl, rfl, h4, hsz⟩⟩
    have := pars_le h1
    have e := congrArg List.length h2
    rw [List.length_map, List.length_map] at e
    omega
  · exact ⟨none, 0, 0, i, q, h4, Nat.zero_le _, .inr ⟨ps, p, i, q, h1, h2, h3, rfl, rfl, rfl, rfl, rfl⟩⟩
theorem split_two {E : Nat → Addr} {L : List Nat} {len : Nat} {wD wP : World} {bD bP : Nat} {eP : Ending} {aD : Option Addr} {n cD k : Nat} {q : Int} (hL : L.length = len) (hs : ∀ c ∈ L, c < 256)
    (hD : SplD wD bD L len aD n cD k q)
    (hP : (∃ rs v, Pars L len 0 (rs.map RV.key) len ∧ eP = .returned (.tuple #[v, .nilIface]) ∧ RvOwn wP bP v rs) ∨
       (∃ rs p i q ev, Pars L len 0 rs p ∧ p < len ∧ Stk L p len i q ∧ eP = .returned (.tuple #[.slice none 0 0, ev]) ∧ AtErr wP bP ev (E i) (q : Int))) (hb : Below wD.heap.size wD wP) :
    ∃ aP cP ev rsD rsP, eP = .returned (.tuple #[.slice aP n cP, ev]) ∧ IsErr wP E ev k q ∧ Rcs JW.cells 2 wP aP n cP rsP ∧ (∀ r ∈ rsP, Bts wP r.a r.n r.c r.l) ∧ Rcs JW.cells 2 wP aD n cD rsD ∧ (∀ r ∈ rsD, Bts wP r.a r.n r.c r.l) ∧ rsP.map JW.key = rsD.map JW.key := by
  rcases hD with ⟨rs, ps, h1, h2, rfl, rfl, h5, h6, h7⟩ | ⟨ps, p, i, j, h1, h2, h3, e1, rfl, rfl, rfl, rfl⟩
  · rcases hP with ⟨rv, v', g1, g2, g3⟩ | ⟨ps', p, i, q, ev, g1, g2, g3, _⟩
    · obtain rfl : rv.map RV.key = ps := pars_uniq _ _ 0 g1 h1
      obtain ⟨a, c, rfl, f1, f2⟩ := g3.shows (fun r hr => by
        have := (split_bound hL hs g1).1 r hr
        exact ⟨by omega, this.2⟩)
      have e : rv.length = n := by
        have e := congrArg List.length h2
        rw [List.length_map, List.length_map, List.length_map] at e
        omega
      rw [e] at f1 g2
      obtain ⟨a', c', ee, k1, k2⟩ := (h6.below hb).shows h7
      simp only [Value.slice.injEq] at ee
      obtain ⟨rfl, _, rfl⟩ := ee
      rw [← h5] at k1
      refine ⟨a, c, _, rs, rv.map RV.jw, g2, .inl ⟨rfl, rfl, rfl⟩, f1, f2, k1, k2, ?_⟩
      rw [h2, List.map_map, List.map_map]
      rfl
    · exact (pars_stk ps' _ 0 p i q h1 g1 g2 g3).elim
  · rcases hP with ⟨rv, v', g1, g2, g3⟩ | ⟨ps', p', i', q', ev, g1, g2, g3, g4, g5⟩
    · exact (pars_stk ps _ 0 p i j g1 h1 h2 h3).elim
    · obtain ⟨rfl, rfl⟩ := stk_uniq ps ps' 0 p p' i j i' q' h1 h3 g1 g3
      rw [e1]
      refine ⟨none, 0, ev, [], [], g4, at_isErr g5 (stk_code h3).1 (stk_code h3).2, ?_, fun r hr => by simp at hr, ?_, fun r hr => by simp at hr, rfl⟩
      · exact ⟨rfl, rfl, by decide, fun _ => ⟨rfl, rfl⟩, fun j v hv => by simp at hv⟩
      · exact ⟨rfl, rfl, by decide, fun _ => ⟨rfl, rfl⟩, fun j v hv => by simp at hv⟩

theorem cut_in (L : List Nat) (p n : Nat) : (cut L p n).length ≤ L.length ∧ ∀ c ∈ cut L p n, c ∈ L := by
  unfold cut
  exact ⟨by rw [List.length_take, List.length_drop]; omega, fun c hc => List.mem_of_mem_drop (List.mem_of_mem_take hc)⟩
theorem exp_small (L : List Nat) (len : Nat) : ∀ (ts : List Int) (p : Nat), ∀ l ∈ (expE L len p ts).2.2, l.length ≤ L.length ∧ ∀ c ∈ l, c ∈ L
  | [], p, l, h => by
    rw [expE] at h
    split at h <;> simp at h
  | t :: ts, p, l, h => by
    rw [expE] at h
    by_cases h1 : (recS L len p t).1 = 0
    · rw [if_pos h1] at h
      by_cases h2 : (expE L len (p + 3 + (recS L len p t).2.2) ts).1 = 0
      · rw [if_pos h2] at h
        rcases List.mem_cons.1 h with rfl | h
        · exact cut_in L _ _
        · exact exp_small L len ts _ l h
      · rw [if_neg h2] at h
        simp at h
    · rw [if_neg h1] at h
      simp at h
theorem exp_len (L : List Nat) (len : Nat) : ∀ (ts : List Int) (p : Nat), (expE L len p ts).2.2.length ≤ ts.length
  | [], p => by rw [expE]; split <;> simp
  | t :: ts, p => by
    rw [expE]
    have h := exp_len L len ts (p + 3 + (recS L len p t).2.2)
    split
    · split
      · rw [List.length_cons, List.length_cons]
        omega
      · exact Nat.zero_le _
    · exact Nat.zero_le _
end Go.Proofs.YtohoncgkekiihaaDoor
