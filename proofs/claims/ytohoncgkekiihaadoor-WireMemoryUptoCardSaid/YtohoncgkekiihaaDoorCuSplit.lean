/-
  Package wire's Split: the records of the bytes.
-/
import Derived.Test.YtohoncgkekiihaaDoorCuStep
import Derived.Test.YtohoncgkekiihaaDoorCuRest
import Derived.Test.YtohoncgkekiihaaDoorRcs
namespace Go.Proofs.YtohoncgkekiihaaDoor
open Go.RowKit FerryCrc
set_option linter.unusedVariables false
set_option linter.unusedSimpArgs false

/-- A record that was split off: its tag, the block in which its body lies, its body. -/
structure RV where
  tag : Nat
  g : Nat
  l : List Nat
def RV.v (r : RV) : Value := .slice (some ⟨r.g, 0, none⟩) r.l.length r.l.length
def RV.cells (r : RV) : List Value := [.int .i64 (r.tag : Int), r.v]
def RV.key (r : RV) : Nat × List Nat := (r.tag, r.l)
theorem RV.len (r : RV) : r.cells.length = 2 := rfl
/-- A list of such records of the call's own. -/
structure RvOwn (w : World) (base : Nat) (v : Value) (rs : List RV) : Prop where
  row : w.ownsRow base 53 2 v rs.length (rs.flatMap RV.cells)
  ne : ∀ r ∈ rs, v.ownBlock ≠ some r.g
  own : ∀ r ∈ rs, Own w base r.v r.l
  nd : (rs.map RV.g).Nodup
theorem RvOwn.frm {S : Nat → Prop} {w w' : World} {base : Nat} {v : Value} {rs : List RV} (h : RvOwn w base v rs) (hf : Frm S w w') (hS : ∀ k, base ≤ k → ¬ S k) : RvOwn w' base v rs := by
  refine ⟨⟨h.row.1, ?_⟩, h.ne, fun r hr => (h.own r hr).frm hf (fun k hk => hS k (World.ownsRow.lt (h.own r hr) k hk).1), h.nd⟩
  rcases h.row.2 with e | ⟨g, cap, cur, e, hg, hh, r⟩
  · exact .inl e
  · refine .inr ⟨g, cap, cur, e, hg, ?_, r⟩
    rw [hf.block g (Array.getElem?_eq_some_iff.1 hh).1 (hS g hg)]
    exact hh
theorem RvOwn.below {w w' : World} {base : Nat} {v : Value} {rs : List RV} (h : RvOwn w base v rs) (hb : Below w.heap.size w w') : RvOwn w' base v rs :=
  h.frm (S := fun _ => False) (Frm.ofBelow hb) (fun _ _ h => h)
theorem RvOwn.wk {w : World} {base base' : Nat} {v : Value} {rs : List RV} (h : RvOwn w base v rs) (hb : base' ≤ base) : RvOwn w base' v rs :=
  ⟨ownsRow_weaken h.row hb, h.ne, fun r hr => (h.own r hr).wk hb, h.nd⟩
theorem rv_nil (w : World) (base : Nat) : RvOwn w base (.slice none 0 0) [] := ⟨⟨rfl, .inl ⟨rfl, rfl⟩⟩, fun r hr => by simp at hr, fun r hr => by simp at hr, List.nodup_nil⟩
theorem nd_snoc {rs : List RV} {r : RV} (h : (rs.map RV.g).Nodup) (hd : ∀ q ∈ rs, q.g ≠ r.g) : ((rs ++ [r]).map RV.g).Nodup := by
  rw [List.map_append, List.nodup_append]
  refine ⟨h, by simp, ?_⟩
  intro a ha b hb
  obtain ⟨q, hq, rfl⟩ := List.mem_map.1 ha
  simp only [List.map_cons, List.map_nil, List.mem_singleton] at hb
  rw [hb]
  exact hd q hq
theorem infoRec : ∃ i z, Tryd.prog.info? 53 = some i ∧ i.zero = some z ∧ i.size = 2 ∧ i.bytes = 32 ∧ z.cells.size = 2 := by
  have h : (Tryd.prog.info? 53).map (fun i => (i.size, i.bytes, i.zero.map (·.cells.size))) = some (2, 32, some 2) := by kernel_rfl
  cases hi : Tryd.prog.info? 53 with
  | none => simp [hi] at h
  | some i =>
    simp only [hi, Option.map_some, Option.some.injEq, Prod.mk.injEq] at h
    obtain ⟨h1, h2, h3⟩ := h
    cases hz : i.zero with
    | none => simp [hz] at h3
    | some z => exact ⟨i, z, rfl, hz, h1, h2, by simpa [hz] using h3⟩
/-- append of one record to such a list. -/
theorem append_rv {w : World} {ops : Array Oper} {rest : List Oper} {o : Oper} {act : Act} {Q : Exit → Act → World → Prop} (hgd : o.guard = none) (s x : Operand)
    (ho : o.op = .call { callee := .builtin .append, args := #[s, x], argTypes := #[28, 28] })
    (base : Nat) (v : Value) (rs : List RV) (hs : act.eval s = v) (hown : RvOwn w base v rs)
    (gx : Nat) (r : RV) (hx : act.eval x = .slice (some ⟨gx, 0, none⟩) 1 1) (x0 : w.cell? ⟨gx, 0, none⟩ = some (.int .i64 (r.tag : Int))) (x1 : w.cell? ⟨gx, 1, none⟩ = some r.v)
    (hr : Own w base r.v r.l) (hn : v.ownBlock ≠ some r.g) (hd : ∀ q ∈ rs, q.g ≠ r.g) (h63 : rs.length + 1 ≤ 4398046511104) (hbase : base ≤ w.heap.size)
    (h : ∀ v' w', RvOwn w' base v' (rs ++ [r]) → Frm (fun k => v.ownBlock = some k) w w' → wpList Tryd.prog ops Q rest (act.put o.dst v') w') : wpList Tryd.prog ops Q (o :: rest) act w := by
  obtain ⟨i, z, hi, hz, hsz, hby, hzs⟩ := infoRec
  have hlt := (World.ownsRow.lt hr r.g rfl).2
  refine wpList_append_lies w hgd s x 28 ho base 53 i z 2 32 Tryd.underlying28 hi hz hsz hby hzs (by decide) v rs.length (rs.flatMap RV.cells) hs hown.row ⟨gx, 0, none⟩ 1 1 r.cells hx rfl ?_ ?_ (by decide) (by unfold maxLen; omega) (by omega) hbase _ rfl ?_
  · intro j u hu
    rw [add_none, Nat.zero_add]
    match j, hu with
    | 0, hu => simp only [RV.cells, List.getElem?_cons_zero, Option.some.injEq] at hu; rw [← hu]; exact x0
    | 1, hu => simp only [RV.cells, List.getElem?_cons_succ, List.getElem?_cons_zero, Option.some.injEq] at hu; rw [← hu]; exact x1
    | j + 2, hu => simp [RV.cells] at hu
  · intro u hu
    rcases List.mem_cons.1 hu with rfl | hu
    · rfl
    · rw [List.mem_singleton.1 hu]
      rfl
  · intro g cap w' h1 h2 h3 h4
    have hf := frm_grown h2
    refine h _ w' ⟨?_, ?_, ?_, nd_snoc hown.nd hd⟩ hf
    · rw [List.length_append, List.flatMap_append]
      simpa using h1
    · intro q hq e
      simp only [Value.ownBlock, Option.some.injEq] at e
      subst e
      rcases List.mem_append.1 hq with hq | hq
      · rcases h3 with h3 | h3
        · exact hown.ne q hq h3
        · have := (World.ownsRow.lt (hown.own q hq) q.g rfl).2
          omega
      · obtain rfl := List.mem_singleton.1 hq
        rcases h3 with h3 | h3
        · exact hn h3
        · omega
    · intro q hq
      rcases List.mem_append.1 hq with hq | hq
      · exact (hown.own q hq).frm hf (fun k hk e => hown.ne q hq (by rw [e]; exact hk ▸ rfl))
      · obtain rfl := List.mem_singleton.1 hq
        exact hr.frm hf (fun k hk e => hn (by rw [e]; exact hk ▸ rfl))

/-- The records from p on to q. -/
def Pars (L : List Nat) (bd : Nat) : Nat → List (Nat × List Nat) → Nat → Prop
  | p, [], q => p = q
  | p, r :: rs, q => ∃ n, Rec L p bd r.1 n ∧ r.2 = cut L (p + 3) n ∧ Pars L bd (p + 3 + n) rs q
theorem pars_snoc {L : List Nat} {bd : Nat} : ∀ {rs : List (Nat × List Nat)} {p q t n : Nat}, Pars L bd p rs q → Rec L q bd t n → Pars L bd p (rs ++ [(t, cut L (q + 3) n)]) (q + 3 + n) := by
  intro rs
  induction rs with
  | nil =>
    intro p q t n h hr
    have h : p = q := h
    subst h
    exact ⟨n, hr, rfl, rfl⟩
  | cons r rs ih =>
    intro p q t n h hr
    obtain ⟨m, h1, h2, h3⟩ := h
    exact ⟨m, h1, h2, ih h3 hr⟩
theorem pars_le {L : List Nat} {bd : Nat} : ∀ {rs : List (Nat × List Nat)} {p q : Nat}, Pars L bd p rs q → p + rs.length ≤ q := by
  intro rs
  induction rs with
  | nil => intro p q h; have h : p = q := h; simp; omega
  | cons r rs ih =>
    intro p q h
    obtain ⟨m, h1, h2, h3⟩ := h
    have := ih h3
    simp
    omega

/-- The place of a cursor, as memory holds it. -/
def plc (w : World) (c : Nat) : Nat := (intOf ((w.cell? ⟨c, 1, none⟩).getD (.int .i64 0))).toNat
theorem Cur.plc {w : World} {c g len p bd : Nat} {L : List Nat} (h : Cur w c g len p bd L) : plc w c = p := by
  unfold Go.Proofs.YtohoncgkekiihaaDoor.plc
  rw [h.c1]
  rfl

set_option maxRecDepth 100000 in
set_option maxHeartbeats 400000 in
theorem split_any {E : Nat → Addr} (a : Option Addr) (len cap : Nat) (L : List Nat) (w : World) (hs : Bts w a len cap L) (he : E3 w E) (hm : len ≤ 4398046511000) :
    Calls Tryd.prog 19 #[.slice a len cap] w fun e w' => Below w.heap.size w w' ∧
      ((∃ rs v, Pars L len 0 (rs.map RV.key) len ∧ e = .returned (.tuple #[v, .nilIface]) ∧ RvOwn w' w.heap.size v rs) ∨
       (∃ rs p i q ev, Pars L len 0 rs p ∧ p < len ∧ Stk L p len i q ∧ e = .returned (.tuple #[.slice none 0 0, ev]) ∧ AtErr w' w.heap.size ev (E i) (q : Int))) := by
  have HC := hide (copen_any a len cap L w hs)
  have HE := hide he
  have HZ := hide hs.size
  have HM := hide hm
  clear hs he hm
  go_enter Tryd.func19, Tryd.ntmps19
  go_wp2_with fail
  refine Calls.mono HC.out ?_
  rintro e w1 ⟨C, hC, rfl, hc, hb⟩
  have HC1 := hide hC
  have HK := hide hc
  have HB := hide hb
  clear hC hc hb
  go_wp2_with fail
  go_loopw [4] (fun v wr => ∃ (p : Nat) (rs : List RV), Hid (Cur wr C w.heap.size len p len L) ∧ Hid (RvOwn wr (C + 1) v rs) ∧ Hid (Pars L len 0 (rs.map RV.key) p) ∧ Hid (Below w.heap.size w wr)) (fun _ wr => len - plc wr C)
  case atStart => exact ⟨0, [], HK.out, rv_nil _ _, rfl, HB.out⟩
  case round =>
    obtain ⟨p, rs, HK, HR, HP, HB⟩ := hrel
    have hpl := HK.out.le
    by_cases hp : p = len
    · subst hp
      have HL := hide (left_any C w.heap.size p p p L wr HK.out)
      rw [Nat.sub_self] at HL
      go_wp2_with fail
      refine Calls.mono HL.out ?_
      rintro e w2 ⟨rfl, hb2⟩
      have HR2 := hide ((HR.out.below hb2).wk (base' := w.heap.size) (by have := HC1.out; omega))
      have HB2 := hide (chain HB.out hb2)
      clear hb2
      go_wp2
      go_ret2
      exact ⟨HB2.out, .inl ⟨rs, u4, HP.out, rfl, HR2.out⟩⟩
    · have HL := hide (left_any C w.heap.size len p len L wr HK.out)
      obtain ⟨q0, hq0⟩ : ∃ q0, len - p = q0 := ⟨_, rfl⟩
      rw [hq0] at HL
      have hq1 : (0 : Int) < (q0 : Int) := by omega
      have hq2 : 0 < q0 := by omega
      have HPL : Hid (p < len) := by unfold Hid; omega
      clear hq0 hp hpl
      go_wp2_with fail
      refine Calls.mono HL.out ?_
      rintro e w2 ⟨rfl, hb2⟩
      have HK2 := hide (HK.out.below hb2)
      have HR2 := hide (HR.out.below hb2)
      have HB2 := hide (chain HB.out hb2)
      clear hb2 HL
      rcases stk_or_rec (L := L) (p := p) (bd := len) (by rw [HZ.out]; exact Nat.le_refl _) with ⟨i, q, hst⟩ | ⟨t, n, hrec⟩
      · have HS := hide hst
        clear hst
        go_wp2_with fail
        refine Calls.mono (next_bad C w.heap.size len p len i q L w2 HK2.out (HE.out.below HB2.out) HS.out) ?_
        rintro e w3 ⟨ev, rfl, ha, hb⟩
        have HA := hide (ha.wk HB2.out.size)
        have HB3 := hide (chain HB2.out hb)
        obtain ⟨b, _, rfl, _⟩ := ha
        clear hb
        go_wp2
        go_ret2
        exact ⟨HB3.out, .inr ⟨_, p, i, q, _, HP.out, HPL.out, HS.out, rfl, HA.out⟩⟩
      · have HS := hide hrec
        have HN : Hid (n ≤ len ∧ t < 256) := by
          refine ⟨by have := hrec.2.2.2.2; omega, ?_⟩
          exact HK2.out.bts.small t (List.mem_of_getElem? hrec.2.1)
        have HG : Hid (p + 3 + n ≤ len) := by unfold Hid; have := hrec.2.2.2.2; have := hrec.1; omega
        clear hrec
        go_wp2_with fail
        refine Calls.mono (next_ok C w.heap.size len p len t n L w2 HK2.out HS.out) ?_
        rintro e w3 ⟨k, hk, rfl, q1, q2, q3⟩
        have HK3 := hide q1
        have HN3 := hide q2
        have HR3 := hide (HR2.out.frm q3 (fun j hj e => by omega))
        have HB3 := hide (HB2.out.trans (q3.below HB2.out.size (fun j e => by have := HC1.out; omega)))
        have HKK : Hid (C < k) := Nat.lt_of_lt_of_le HK2.out.lt hk
        clear q1 q2 q3 hk
        go_wp2_with fail
        refine Calls.mono (rest_any k w.heap.size len (p + 3) (p + 3 + n) L w3 HN3.out) ?_
        rintro e w4 ⟨rfl, ho, hb⟩
        rw [show p + 3 + n - (p + 3) = n by omega] at ho ⊢
        have hcl : (cut L (p + 3) n).length = n := by
          unfold cut
          rw [List.length_take, List.length_drop, HZ.out]
          have := HG.out
          omega
        have HO := hide (ho.wk (base' := C + 1) (by have := HK3.out.lt; omega))
        have HK4 := hide (HK3.out.below hb)
        have HR4 := hide (HR3.out.below hb)
        have HB4 := hide (chain HB3.out hb)
        have HZ4 : Hid (C + 1 ≤ w4.heap.size) := HK4.out.lt
        have HNE : Hid (u4.ownBlock ≠ some w3.heap.size) := fun e => by
          have := (World.ownsRow.lt HR3.out.row _ e).2
          omega
        have HDD : Hid (∀ q ∈ rs, q.g ≠ w3.heap.size) := fun q hq e => by have := (World.ownsRow.lt (HR3.out.own q hq) q.g rfl).2; omega
        have HRL : Hid (rs.length + 1 ≤ 4398046511104) := by
          unfold Hid
          have h1 := pars_le HP.out
          rw [List.length_map] at h1
          have h2 := HPL.out
          have h3 := HM.out
          omega
        have HCL := hide hcl
        clear ho hb hcl
        have HA5 : Hid (Below w4.heap.size w4 (w4.alloc (.cells #[.int .i64 (t : Int), .slice (some ⟨w3.heap.size, 0, none⟩) n n] 53))) := (Below.refl _ _).alloc (Nat.le_refl _) _
        have HRW := hide (HR4.out.below HA5.out)
        have HKW := hide (HK4.out.below HA5.out)
        have hv : RV.v ⟨t, w3.heap.size, cut L (p + 3) n⟩ = .slice (some ⟨w3.heap.size, 0, none⟩) n n := by
          show Value.slice _ (cut L (p + 3) n).length (cut L (p + 3) n).length = _
          rw [HCL.out]
        have HOW : Hid (Own (w4.alloc (.cells #[.int .i64 (t : Int), .slice (some ⟨w3.heap.size, 0, none⟩) n n] 53)) (C + 1) (RV.v ⟨t, w3.heap.size, cut L (p + 3) n⟩) (cut L (p + 3) n)) := by
          unfold Hid
          rw [hv]
          exact HO.out.frm (S := fun _ => False) (Frm.ofBelow HA5.out) (fun _ _ h => h)
        have HX0 : Hid ((w4.alloc (.cells #[.int .i64 (t : Int), .slice (some ⟨w3.heap.size, 0, none⟩) n n] 53)).cell? ⟨w4.heap.size, 0, none⟩ = some (.int .i64 (t : Int))) := (World.cell?_alloc_at _ _ _ _ rfl).trans rfl
        have HX1 : Hid ((w4.alloc (.cells #[.int .i64 (t : Int), .slice (some ⟨w3.heap.size, 0, none⟩) n n] 53)).cell? ⟨w4.heap.size, 1, none⟩ = some (RV.v ⟨t, w3.heap.size, cut L (p + 3) n⟩)) := by
          unfold Hid
          rw [hv]
          exact (World.cell?_alloc_at _ _ _ _ rfl).trans rfl
        clear hv
        go_wp2_with (refine append_rv rfl (.tmp 23) (.tmp 28) rfl (C + 1) u4 rs rfl HRW.out w4.heap.size ⟨t, w3.heap.size, cut L (p + 3) n⟩ rfl HX0.out HX1.out HOW.out HNE.out HDD.out HRL.out (Nat.le_trans HZ4.out HA5.out.size) ?_; intro v' w5 ho hf; have HO5 := hide ho; have HF5 := hide hf; clear ho hf)
        have HF6 : Hid (∀ j, u4.ownBlock = some j → C + 1 ≤ j) := fun j hj => (World.ownsRow.lt HRW.out.row j hj).1
        have HK5 := hide (HKW.out.frm HF5.out (fun e => by have := HF6.out C e; omega) (fun e => by have := HF6.out _ e; have := HC1.out; omega))
        refine ⟨⟨p + 3 + n, rs ++ [(⟨t, w3.heap.size, cut L (p + 3) n⟩ : RV)], HK5, HO5, ?_, ?_⟩, ?_⟩
        · unfold Hid
          rw [List.map_append]
          exact pars_snoc HP.out HS.out
        · exact (chain HB4.out HA5.out).trans (HF5.out.below (chain HB4.out HA5.out).size (fun j e => by have := HF6.out j e; have := HC1.out; omega))
        · rw [HK5.out.plc, HK.out.plc]
          have := HPL.out
          omega
end Go.Proofs.YtohoncgkekiihaaDoor
