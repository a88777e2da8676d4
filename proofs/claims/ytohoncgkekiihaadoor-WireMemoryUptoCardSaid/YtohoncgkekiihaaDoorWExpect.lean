/-
  Package wire's Expect, where the records are those that are asked for.
-/
import Derived.Test.YtohoncgkekiihaaDoorWFixed
import Derived.Test.YtohoncgkekiihaaDoorCuSplit
namespace Go.Proofs.YtohoncgkekiihaaDoor
open Go.RowKit FerryCrc
set_option linter.unusedVariables false
set_option linter.unusedSimpArgs false

/-- A list of bodies of the call's own. -/
structure BvOwn (w : World) (base : Nat) (v : Value) (rs : List RV) : Prop where
  row : w.ownsRow base 23 1 v rs.length (rs.map RV.v)
  ne : ∀ r ∈ rs, v.ownBlock ≠ some r.g
  own : ∀ r ∈ rs, Own w base r.v r.l
  nd : (rs.map RV.g).Nodup
theorem BvOwn.frm {S : Nat → Prop} {w w' : World} {base : Nat} {v : Value} {rs : List RV} (h : BvOwn w base v rs) (hf : Frm S w w') (hS : ∀ k, base ≤ k → ¬ S k) : BvOwn w' base v rs := by
  refine ⟨⟨h.row.1, ?_⟩, h.ne, fun r hr => (h.own r hr).frm hf (fun k hk => hS k (World.ownsRow.lt (h.own r hr) k hk).1), h.nd⟩
  rcases h.row.2 with e | ⟨g, cap, cur, e, hg, hh, r⟩
  · exact .inl e
  · refine .inr ⟨g, cap, cur, e, hg, ?_, r⟩
    rw [hf.block g (Array.getElem?_eq_some_iff.1 hh).1 (hS g hg)]
    exact hh
theorem BvOwn.below {w w' : World} {base : Nat} {v : Value} {rs : List RV} (h : BvOwn w base v rs) (hb : Below w.heap.size w w') : BvOwn w' base v rs :=
  h.frm (S := fun _ => False) (Frm.ofBelow hb) (fun _ _ h => h)
theorem BvOwn.wk {w : World} {base base' : Nat} {v : Value} {rs : List RV} (h : BvOwn w base v rs) (hb : base' ≤ base) : BvOwn w base' v rs :=
  ⟨ownsRow_weaken h.row hb, h.ne, fun r hr => (h.own r hr).wk hb, h.nd⟩
theorem bv_nil (w : World) (base : Nat) : BvOwn w base (.slice none 0 0) [] := ⟨⟨rfl, .inl ⟨rfl, rfl⟩⟩, fun r hr => by simp at hr, fun r hr => by simp at hr, List.nodup_nil⟩
theorem infoBody : ∃ i z, Tryd.prog.info? 23 = some i ∧ i.zero = some z ∧ i.size = 1 ∧ i.bytes = 24 ∧ z.cells.size = 1 := by
  have h : (Tryd.prog.info? 23).map (fun i => (i.size, i.bytes, i.zero.map (·.cells.size))) = some (1, 24, some 1) := by kernel_rfl
  cases hi : Tryd.prog.info? 23 with
  | none => simp [hi] at h
  | some i =>
    simp only [hi, Option.map_some, Option.some.injEq, Prod.mk.injEq] at h
    obtain ⟨h1, h2, h3⟩ := h
    cases hz : i.zero with
    | none => simp [hz] at h3
    | some z => exact ⟨i, z, rfl, hz, h1, h2, by simpa [hz] using h3⟩
/-- append of one body to such a list. -/
theorem append_bv {w : World} {ops : Array Oper} {rest : List Oper} {o : Oper} {act : Act} {Q : Exit → Act → World → Prop} (hgd : o.guard = none) (s x : Operand)
    (ho : o.op = .call { callee := .builtin .append, args := #[s, x], argTypes := #[36, 36] })
    (base : Nat) (v : Value) (rs : List RV) (hs : act.eval s = v) (hown : BvOwn w base v rs)
    (gx : Nat) (r : RV) (hx : act.eval x = .slice (some ⟨gx, 0, none⟩) 1 1) (x0 : w.cell? ⟨gx, 0, none⟩ = some r.v)
    (hr : Own w base r.v r.l) (hn : v.ownBlock ≠ some r.g) (hd : ∀ q ∈ rs, q.g ≠ r.g) (h63 : rs.length + 1 ≤ 4398046511104) (hbase : base ≤ w.heap.size)
    (h : ∀ v' w', BvOwn w' base v' (rs ++ [r]) → Frm (fun k => v.ownBlock = some k) w w' → wpList Tryd.prog ops Q rest (act.put o.dst v') w') : wpList Tryd.prog ops Q (o :: rest) act w := by
  obtain ⟨i, z, hi, hz, hsz, hby, hzs⟩ := infoBody
  have hlt := (World.ownsRow.lt hr r.g rfl).2
  refine wpList_append_lies w hgd s x 36 ho base 23 i z 1 24 Tryd.underlying36 hi hz hsz hby hzs (by decide) v rs.length (rs.map RV.v) hs hown.row ⟨gx, 0, none⟩ 1 1 [r.v] hx rfl ?_ ?_ (by decide) (by unfold maxLen; omega) (by omega) hbase _ rfl ?_
  · intro j u hu
    rw [add_none, Nat.zero_add]
    match j, hu with
    | 0, hu => simp only [List.getElem?_cons_zero, Option.some.injEq] at hu; rw [← hu]; exact x0
    | j + 1, hu => simp at hu
  · intro u hu
    rw [List.mem_singleton.1 hu]
    rfl
  · intro g cap w' h1 h2 h3 h4
    have hf := frm_grown h2
    refine h _ w' ⟨?_, ?_, ?_, nd_snoc hown.nd hd⟩ hf
    · rw [List.length_append, List.map_append]
      simpa using h1
    · intro q hq e
      simp only [Value.ownBlock, Option.some.injEq] at e
      subst e
      rcases List.mem_append.1 hq with hq | hq
      · rcases h3 with h3 | h3
        · exact hown.ne q hq h3
        · have := (World.ownsRow.lt (hown.own q hq) q.g rfl).2
          omega
      · obtain rfl := List.mem_singleton.1 hq
        rcases h3 with h3 | h3
        · exact hn h3
        · omega
    · intro q hq
      rcases List.mem_append.1 hq with hq | hq
      · exact (hown.own q hq).frm hf (fun k hk e => hown.ne q hq (by rw [e]; exact hk ▸ rfl))
      · obtain rfl := List.mem_singleton.1 hq
        exact hr.frm hf (fun k hk e => hn (by rw [e]; exact hk ▸ rfl))

theorem pars_at {L : List Nat} {bd : Nat} {ps : List (Nat × List Nat)} {p q i t : Nat} {l : List Nat} (h : Pars L bd p (ps.drop i) q) (hi : ps[i]? = some (t, l)) : ∃ n, Rec L p bd t n ∧ l = cut L (p + 3) n ∧ Pars L bd (p + 3 + n) (ps.drop (i + 1)) q := by
  have h1 : ps.drop i = (t, l) :: ps.drop (i + 1) := by
    obtain ⟨h2, h3⟩ := List.getElem?_eq_some_iff.1 hi
    rw [List.drop_eq_getElem_cons h2, h3]
  rw [h1] at h
  exact h

set_option maxRecDepth 100000 in
set_option maxHeartbeats 400000 in
theorem expect_ok (a : Option Addr) (len cap : Nat) (L : List Nat) (a2 : Option Addr) (n2 c2 : Nat) (ps : List (Nat × List Nat)) (w : World) (hs : Bts w a len cap L) (ht : Rcs (fun r : Nat × List Nat => [.int .i64 (r.1 : Int)]) 1 w a2 n2 c2 ps) (hP : Pars L len 0 ps len) (hm : len ≤ 4398046511000) :
    Calls Tryd.prog 20 #[.slice a len cap, .slice a2 n2 c2] w fun e w' => Below w.heap.size w w' ∧ ∃ rs v, rs.map RV.key = ps ∧ e = .returned (.tuple #[v, .nilIface]) ∧ BvOwn w' w.heap.size v rs := by
  have HC := hide (copen_any a len cap L w hs)
  have HT := hide ht
  have HTZ := hide ht.size
  have HZ := hide hs.size
  have HM := hide hm
  have HP := hide hP
  have HPL := hide (pars_le hP)
  clear hs hm ht hP
  go_enter Tryd.func20, Tryd.ntmps20
  go_wp2_with fail
  refine Calls.mono HC.out ?_
  rintro e w1 ⟨C, hC, rfl, hc, hb⟩
  obtain ⟨G, hG⟩ : ∃ G, w.heap.size = G := ⟨_, rfl⟩
  rw [hG] at hc
  have HK := hide hc
  have HB := hide hb
  clear hc hb HC
  go_wp2_with fail
  go_loopw [6, 17] (fun v i wr => ∃ (q p : Nat) (rs : List RV), q ≤ n2 ∧ i = .int .i64 (q : Int) ∧ Hid (Cur wr C G len p len L) ∧ Hid (BvOwn wr (C + 1) v rs) ∧ Hid (rs.map RV.key = ps.take q) ∧ Hid (Pars L len p (ps.drop q) len) ∧ Hid (Below w.heap.size w wr)) (fun _ i _ => n2 - (intOf i).toNat)
  case atStart => exact ⟨0, 0, [], by omega, rfl, HK, bv_nil _ _, rfl, HP, HB⟩
  case round =>
    obtain ⟨q, p, rs, hq, rfl, HK, HR, HRK, HPP, HB⟩ := hrel
    by_cases hlt : q < n2
    · obtain ⟨⟨t, l⟩, hr⟩ : ∃ r, ps[q]? = some r := ⟨_, List.getElem?_eq_getElem (by rw [HTZ.out]; exact hlt)⟩
      obtain ⟨b, off, rfl, hcell⟩ := Rcs.at (f := fun r : Nat × List Nat => [.int .i64 (r.1 : Int)]) (sz := 1) (fun _ => rfl) (by decide) HT.out hr
      have k0 : wr.cell? ⟨b, off + q * 1, none⟩ = some (.int .i64 (t : Int)) := cell_below (hcell 0 _ rfl) HB.out
      rw [Nat.mul_one] at k0
      obtain ⟨n, hrec, rfl, hnext⟩ := pars_at HPP.out hr
      have HS := hide hrec
      have HNX := hide hnext
      have HTK : Hid (ps.take (q + 1) = ps.take q ++ [(t, cut L (p + 3) n)]) := by unfold Hid; rw [List.take_add_one, hr]; rfl
      have HG : Hid (p + 3 + n ≤ len) := by unfold Hid; have := hrec.2.2.2.2; have := hrec.1; omega
      have HLR : Hid (rs.length = q) := by
        have := congrArg List.length HRK.out
        rw [List.length_map, List.length_take, HTZ.out] at this
        unfold Hid
        omega
      have hq8 : q + 1 ≤ 4398046511104 := by have h1 := HPL.out; rw [HTZ.out] at h1; have h2 : len ≤ 4398046511000 := HM.out; omega
      clear hcell hr hrec hnext
      go_wp2_with fail
      refine Calls.mono (crec_ok C G len p len t n L wr HK.out HS.out) ?_
      rintro e w3 ⟨k, hk, rfl, q1, q2, q3⟩
      have HK3 := hide q1
      have HN3 := hide q2
      have HR3 := hide (HR.out.frm q3 (fun j hj e => by omega))
      have HB3 := hide (HB.out.trans (q3.below HB.out.size (fun j e => by omega)))
      clear q1 q2 q3 hk k0
      go_wp2_with fail
      refine Calls.mono (rest_any k G len (p + 3) (p + 3 + n) L w3 HN3.out) ?_
      rintro e w4 ⟨rfl, ho, hb⟩
      rw [show p + 3 + n - (p + 3) = n by omega] at ho ⊢
      have hcl : (cut L (p + 3) n).length = n := by
        unfold cut
        rw [List.length_take, List.length_drop, HZ.out]
        have := HG.out
        omega
      have HO := hide (ho.wk (base' := C + 1) (by have := HK3.out.lt; omega))
      have HK4 := hide (HK3.out.below hb)
      have HR4 := hide (HR3.out.below hb)
      have HB4 := hide (chain HB3.out hb)
      have HZ4 : Hid (C + 1 ≤ w4.heap.size) := HK4.out.lt
      have HNE : Hid (u6.ownBlock ≠ some w3.heap.size) := fun e => by
        have := (World.ownsRow.lt HR3.out.row _ e).2
        omega
      have HDD : Hid (∀ q ∈ rs, q.g ≠ w3.heap.size) := fun q hq e => by have := (World.ownsRow.lt (HR3.out.own q hq) q.g rfl).2; omega
      have HRL : Hid (rs.length + 1 ≤ 4398046511104) := by unfold Hid; rw [HLR.out]; exact hq8
      have HCL := hide hcl
      clear ho hb hcl
      have HA5 : Hid (Below w4.heap.size w4 (w4.alloc (.cells #[.slice (some ⟨w3.heap.size, 0, none⟩) n n] 23))) := (Below.refl _ _).alloc (Nat.le_refl _) _
      have HRW := hide (HR4.out.below HA5.out)
      have HKW := hide (HK4.out.below HA5.out)
      have hv : RV.v ⟨t, w3.heap.size, cut L (p + 3) n⟩ = .slice (some ⟨w3.heap.size, 0, none⟩) n n := by
        show Value.slice _ (cut L (p + 3) n).length (cut L (p + 3) n).length = _
        rw [HCL.out]
      have HOW : Hid (Own (w4.alloc (.cells #[.slice (some ⟨w3.heap.size, 0, none⟩) n n] 23)) (C + 1) (RV.v ⟨t, w3.heap.size, cut L (p + 3) n⟩) (cut L (p + 3) n)) := by
        unfold Hid
        rw [hv]
        exact HO.out.frm (S := fun _ => False) (Frm.ofBelow HA5.out) (fun _ _ h => h)
      have HX0 : Hid ((w4.alloc (.cells #[.slice (some ⟨w3.heap.size, 0, none⟩) n n] 23)).cell? ⟨w4.heap.size, 0, none⟩ = some (RV.v ⟨t, w3.heap.size, cut L (p + 3) n⟩)) := by
        unfold Hid
        rw [hv]
        exact (World.cell?_alloc_at _ _ _ _ rfl).trans rfl
      clear hv
      go_wp2_with (refine append_bv rfl (.tmp 30) (.tmp 33) rfl (C + 1) u6 rs rfl HRW.out w4.heap.size ⟨t, w3.heap.size, cut L (p + 3) n⟩ rfl HX0.out HOW.out HNE.out HDD.out HRL.out (Nat.le_trans HZ4.out HA5.out.size) ?_; intro v' w5 ho hf; have HO5 := hide ho; have HF5 := hide hf; clear ho hf)
      have HF6 : Hid (∀ j, u6.ownBlock = some j → C + 1 ≤ j) := fun j hj => (World.ownsRow.lt HRW.out.row j hj).1
      have HK5 := hide (HKW.out.frm HF5.out (fun e => by have := HF6.out C e; omega) (fun e => by have := HF6.out _ e; omega))
      have HB5 := hide ((chain HB4.out HA5.out).trans (HF5.out.below (chain HB4.out HA5.out).size (fun j e => by have := HF6.out j e; omega)))
      refine ⟨⟨q + 1, p + 3 + n, rs ++ [⟨t, w3.heap.size, cut L (p + 3) n⟩], by omega, by first | rfl | simp, HK5, HO5, ?_, HNX, HB5⟩, by simp [intOf]; omega⟩
      unfold Hid
      rw [List.map_append, HRK.out, HTK.out]
      rfl
    · obtain rfl : q = n2 := by omega
      have e1 : ps.take q = ps := by rw [← HTZ.out]; exact List.take_length
      have e2 : ps.drop q = [] := by rw [← HTZ.out]; exact List.drop_length
      rw [e1] at HRK
      have hpe : p = len := by have h1 := HPP.out; rw [e2] at h1; exact h1
      subst hpe
      clear e1 e2
      go_wp2_with fail
      refine Calls.mono (end_ok C G p p p L wr HK.out (by omega)) ?_
      rintro e w2 ⟨rfl, hb2⟩
      have HR2 := hide ((HR.out.below hb2).wk (base' := w.heap.size) (by omega))
      have HB2 := hide (chain HB.out hb2)
      clear hb2
      go_wp2
      go_ret2
      exact ⟨HB2.out, rs, u6, HRK.out, rfl, HR2.out⟩
end Go.Proofs.YtohoncgkekiihaaDoor
