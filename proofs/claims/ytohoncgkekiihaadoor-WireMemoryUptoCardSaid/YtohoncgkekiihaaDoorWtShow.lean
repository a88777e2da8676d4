/-
  What lists of records, of bodies and of numbers of the call's own show.
-/
import Derived.Test.YtohoncgkekiihaaDoorWtRecs
import Derived.Test.YtohoncgkekiihaaDoorWExpect
namespace Go.Proofs.YtohoncgkekiihaaDoor
open Go.RowKit FerryCrc
set_option linter.unusedVariables false
set_option linter.unusedSimpArgs false

/-- A split record as one that is handed in. -/
def RV.jw (r : RV) : JW := ⟨(r.tag : Int), some ⟨r.g, 0, none⟩, r.l.length, r.l.length, r.l⟩
theorem flat_jw (rs : List RV) : (rs.map RV.jw).flatMap JW.cells = rs.flatMap RV.cells := by
  induction rs with
  | nil => rfl
  | cons r rs ih => rw [List.map_cons, List.flatMap_cons, List.flatMap_cons, ih]; rfl
theorem RvOwn.shows {w : World} {base : Nat} {v : Value} {rs : List RV} (h : RvOwn w base v rs) (hm : ∀ r ∈ rs, r.l.length ≤ 140737488355328 ∧ ∀ c ∈ r.l, c < 256) :
    ∃ a c, v = .slice a rs.length c ∧ Rcs JW.cells 2 w a rs.length c (rs.map RV.jw) ∧ ∀ r ∈ rs.map RV.jw, Bts w r.a r.n r.c r.l := by
  obtain ⟨a, c, e, hr⟩ := RLk.row (.inl h.row)
  refine ⟨a, c, e, ⟨by simp, by rw [flat_jw]; exact hr⟩, fun q hq => ?_⟩
  obtain ⟨r, hr, rfl⟩ := List.mem_map.1 hq
  exact (h.own r hr).bts rfl (hm r hr).1 (hm r hr).2
theorem JwOwn.shows {w : World} {base : Nat} {v : Value} {rs : List JW} (h : JwOwn w base v rs) (hm : ∀ r ∈ rs, r.l.length ≤ 140737488355328 ∧ ∀ c ∈ r.l, c < 256) :
    ∃ a c, v = .slice a rs.length c ∧ Rcs JW.cells 2 w a rs.length c rs ∧ ∀ r ∈ rs, Bts w r.a r.n r.c r.l := by
  obtain ⟨a, c, e, hr⟩ := RLk.row (.inl h.row)
  refine ⟨a, c, e, ⟨rfl, hr⟩, fun r hr => ?_⟩
  obtain ⟨a', c', e', hb⟩ := (h.own r hr).shown (hm r hr).1 (hm r hr).2
  unfold JW.v at e'
  simp only [Value.slice.injEq] at e'
  obtain ⟨e1, e2, e3⟩ := e'
  rw [e1, e2, e3]
  exact hb
theorem flat_bv (rs : List RV) : rs.flatMap (fun r => [r.v]) = rs.map RV.v := by
  induction rs with
  | nil => rfl
  | cons r rs ih => rw [List.flatMap_cons, ih]; rfl
theorem BvOwn.shows {w : World} {base : Nat} {v : Value} {rs : List RV} (h : BvOwn w base v rs) (hm : ∀ r ∈ rs, r.l.length ≤ 140737488355328 ∧ ∀ c ∈ r.l, c < 256) :
    ∃ a c, v = .slice a rs.length c ∧ Rcs (fun r : RV => [r.v]) 1 w a rs.length c rs ∧ ∀ r ∈ rs, Bts w (some ⟨r.g, 0, none⟩) r.l.length r.l.length r.l := by
  obtain ⟨a, c, e, hr⟩ := RLk.row (.inl h.row)
  refine ⟨a, c, e, ⟨rfl, by rw [flat_bv]; exact hr⟩, fun r hr => ?_⟩
  exact (h.own r hr).bts rfl (hm r hr).1 (hm r hr).2

theorem infoInt : ∃ i z, Tryd.prog.info? 3 = some i ∧ i.zero = some z ∧ i.size = 1 ∧ i.bytes = 8 ∧ z.cells.size = 1 := by
  have h : (Tryd.prog.info? 3).map (fun i => (i.size, i.bytes, i.zero.map (·.cells.size))) = some (1, 8, some 1) := by kernel_rfl
  cases hi : Tryd.prog.info? 3 with
  | none => simp [hi] at h
  | some i =>
    simp only [hi, Option.map_some, Option.some.injEq, Prod.mk.injEq] at h
    obtain ⟨h1, h2, h3⟩ := h
    cases hz : i.zero with
    | none => simp [hz] at h3
    | some z => exact ⟨i, z, rfl, hz, h1, h2, by simpa [hz] using h3⟩
/-- A list of numbers of the call's own. -/
def IvOwn (w : World) (base : Nat) (v : Value) (ts : List Int) : Prop := w.ownsRow base 3 1 v ts.length (ts.map (Value.int .i64 ·))
theorem iv_nil (w : World) (base : Nat) : IvOwn w base (.slice none 0 0) [] := ⟨rfl, .inl ⟨rfl, rfl⟩⟩
/-- append of one number to such a list. -/
theorem append_iv {w : World} {ops : Array Oper} {rest : List Oper} {o : Oper} {act : Act} {Q : Exit → Act → World → Prop} (hgd : o.guard = none) (s x : Operand)
    (ho : o.op = .call { callee := .builtin .append, args := #[s, x], argTypes := #[24, 24] })
    (base : Nat) (v : Value) (ts : List Int) (hs : act.eval s = v) (hown : IvOwn w base v ts)
    (gx : Nat) (t : Int) (hx : act.eval x = .slice (some ⟨gx, 0, none⟩) 1 1) (x0 : w.cell? ⟨gx, 0, none⟩ = some (.int .i64 t))
    (h63 : ts.length + 1 ≤ 4398046511104) (hbase : base ≤ w.heap.size)
    (h : ∀ v' w', IvOwn w' base v' (ts ++ [t]) → Frm (fun k => v.ownBlock = some k) w w' → wpList Tryd.prog ops Q rest (act.put o.dst v') w') : wpList Tryd.prog ops Q (o :: rest) act w := by
  obtain ⟨i, z, hi, hz, hsz, hby, hzs⟩ := infoInt
  refine wpList_append_lies w hgd s x 24 ho base 3 i z 1 8 Tryd.underlying24 hi hz hsz hby hzs (by decide) v ts.length (ts.map (Value.int .i64 ·)) hs hown ⟨gx, 0, none⟩ 1 1 [.int .i64 t] hx rfl ?_ ?_ (by decide) (by unfold maxLen; omega) (by omega) hbase _ rfl ?_
  · intro j u hu
    rw [add_none, Nat.zero_add]
    match j, hu with
    | 0, hu => simp only [List.getElem?_cons_zero, Option.some.injEq] at hu; rw [← hu]; exact x0
    | j + 1, hu => simp at hu
  · intro u hu
    rw [List.mem_singleton.1 hu]
    rfl
  · intro g cap w' h1 h2 h3 h4
    refine h _ w' ?_ (frm_grown h2)
    unfold IvOwn
    rw [List.length_append, List.map_append]
    simpa using h1
end Go.Proofs.YtohoncgkekiihaaDoor
