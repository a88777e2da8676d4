/-
  Rows of cells that a slice shows; rows of one's own or empty ones; append of the one to the other; no program in it but its types.
-/
import Derived.Test.YthcmeboepedelaaDoorTiny
import Derived.ArgAppend
import Derived.Deep.WholeRow
import Derived.Deep.RegionLaw
import Derived.Deep.RegionHeld3
namespace Go.Proofs.YthcmeboepedelaaDoor
open Go.RowKit
set_option linter.unusedVariables false
set_option linter.unusedSimpArgs false

/-- The cells that a slice of elements of sz cells each shows in a world. -/
structure Row (w : World) (a : Option Addr) (len cap sz : Nat) (cs : List Value) : Prop where
  size : cs.length = len * sz
  fit : len ≤ cap
  null : a = none → len = 0 ∧ cap = 0
  cell : ∀ j v, cs[j]? = some v → ∃ b off, a = some ⟨b, off, none⟩ ∧ w.cell? ⟨b, off + j, none⟩ = some v
theorem Row.below {w w' : World} {a : Option Addr} {len cap sz : Nat} {cs : List Value} (h : Row w a len cap sz cs) (hb : Below w.heap.size w w') : Row w' a len cap sz cs :=
  ⟨h.size, h.fit, h.null, fun j v hv => by
    obtain ⟨b, off, ha, hc⟩ := h.cell j v hv
    refine ⟨b, off, ha, ?_⟩
    rw [hb.cell (p := ⟨b, off + j, none⟩) (block_lt_of_cell hc)]
    exact hc⟩
/-- A slice of the call's own memory, from block 'base' on, or an empty one. -/
def RLk (w : World) (base : Nat) (e : TypeId) (sz : Nat) (v : Value) (n : Nat) (cs : List Value) : Prop :=
  w.ownsRow base e sz v n cs ∨ (cs = [] ∧ n = 0 ∧ ∃ ad, v = .slice (some ad) 0 0)
theorem ownsRow_below {w w' : World} {base : Nat} {e : TypeId} {sz : Nat} {v : Value} {n : Nat} {cs : List Value} (h : w.ownsRow base e sz v n cs) (hb : Below w.heap.size w w') : w'.ownsRow base e sz v n cs := by
  refine ⟨h.1, ?_⟩
  rcases h.2 with e | ⟨g, cap, cur, e, hg, hh, r⟩
  · exact .inl e
  · refine .inr ⟨g, cap, cur, e, hg, ?_, r⟩
    rw [hb.block g (Array.getElem?_eq_some_iff.1 hh).1]
    exact hh
theorem ownsRow_weaken {w : World} {base base' : Nat} {e : TypeId} {sz : Nat} {v : Value} {n : Nat} {cs : List Value} (h : w.ownsRow base e sz v n cs) (hb : base' ≤ base) : w.ownsRow base' e sz v n cs := by
  refine ⟨h.1, ?_⟩
  rcases h.2 with e | ⟨g, cap, cur, e, hg, r⟩
  · exact .inl e
  · exact .inr ⟨g, cap, cur, e, Nat.le_trans hb hg, r⟩
theorem RLk.below {w w' : World} {base : Nat} {e : TypeId} {sz : Nat} {v : Value} {n : Nat} {cs : List Value} (h : RLk w base e sz v n cs) (hb : Below w.heap.size w w') : RLk w' base e sz v n cs := by
  rcases h with h | h
  · exact .inl (ownsRow_below h hb)
  · exact .inr h
theorem RLk.weaken {w : World} {base base' : Nat} {e : TypeId} {sz : Nat} {v : Value} {n : Nat} {cs : List Value} (h : RLk w base e sz v n cs) (hb : base' ≤ base) : RLk w base' e sz v n cs := by
  rcases h with h | h
  · exact .inl (ownsRow_weaken h hb)
  · exact .inr h
theorem RLk.setCell {w : World} {base : Nat} {e : TypeId} {sz : Nat} {v : Value} {n : Nat} {cs : List Value} (h : RLk w base e sz v n cs) {p : Addr} (hp : p.block < base) (u : Value) : RLk (w.setCell p u) base e sz v n cs := by
  rcases h with h | h
  · exact .inl (ownsRow_setCell_below h hp u)
  · exact .inr h
/-- Two cells of a block, which may be written. -/
structure Two (w : World) (b : Nat) (x y : Value) : Prop where
  c0 : w.cell? ⟨b, 0, none⟩ = some x
  c1 : w.cell? ⟨b, 1, none⟩ = some y
  f0 : w.frozen? ⟨b, 0, none⟩ = false
  f1 : w.frozen? ⟨b, 1, none⟩ = false
theorem Two.below {w w' : World} {b : Nat} {x y : Value} (h : Two w b x y) (hb : Below w.heap.size w w') : Two w' b x y := by
  have hl : b < w.heap.size := block_lt_of_cell h.c0
  exact ⟨by rw [hb.cell (p := ⟨b, 0, none⟩) hl]; exact h.c0, by rw [hb.cell (p := ⟨b, 1, none⟩) hl]; exact h.c1, by rw [hb.frozen (p := ⟨b, 0, none⟩) hl]; exact h.f0, by rw [hb.frozen (p := ⟨b, 1, none⟩) hl]; exact h.f1⟩
theorem two_alloc (w : World) (x y : Value) (t : TypeId) : Two (w.alloc (.cells #[x, y] t)) w.heap.size x y :=
  ⟨by rw [World.cell?_alloc_at _ _ _ _ rfl]; rfl, by rw [World.cell?_alloc_at _ _ _ _ rfl]; rfl, World.frozen?_alloc_new _ _ _ _, World.frozen?_alloc_new _ _ _ _⟩
theorem Two.s0 {w : World} {b : Nat} {x y : Value} (h : Two w b x y) : (w.cell? ⟨b, 0, none⟩).isSome = true := by rw [h.c0]; rfl
theorem Two.s1 {w : World} {b : Nat} {x y : Value} (h : Two w b x y) : (w.cell? ⟨b, 1, none⟩).isSome = true := by rw [h.c1]; rfl
theorem Two.far {w : World} {b b' o : Nat} {x y u : Value} (h : Two w b x y) (hne : b' ≠ b) : Two (w.setCell ⟨b', o, none⟩ u) b x y :=
  ⟨by rw [World.cell?_setCell_other _ _ _ _ (by simp)]; exact h.c0, by rw [World.cell?_setCell_other _ _ _ _ (by simp)]; exact h.c1, by rw [World.frozen?_setCell]; exact h.f0, by rw [World.frozen?_setCell]; exact h.f1⟩
theorem Two.set {w : World} {b : Nat} {x y : Value} (h : Two w b x y) (u v : Value) : Two ((w.setCell ⟨b, 0, none⟩ u).setCell ⟨b, 1, none⟩ v) b u v := by
  have h0 := World.cell?_setCell_same w ⟨b, 0, none⟩ u h.c0
  have h1 : (w.setCell ⟨b, 0, none⟩ u).cell? ⟨b, 1, none⟩ = some y := by rw [World.cell?_setCell_other _ _ _ _ (by simp)]; exact h.c1
  exact ⟨by rw [World.cell?_setCell_other _ _ _ _ (by simp)]; exact h0, World.cell?_setCell_same _ _ _ h1, by rw [World.frozen?_setCell, World.frozen?_setCell]; exact h.f0, by rw [World.frozen?_setCell, World.frozen?_setCell]; exact h.f1⟩
/-- What it shows. -/
theorem RLk.row {w : World} {base : Nat} {e : TypeId} {sz : Nat} {v : Value} {n : Nat} {cs : List Value} (h : RLk w base e sz v n cs) : ∃ a c, v = .slice a n c ∧ Row w a n c sz cs := by
  rcases h with h | ⟨rfl, rfl, ad, rfl⟩
  · rcases h.2 with ⟨e, rfl⟩ | ⟨g, cap, cur, e, hg, hh, hnc, hcm, hcs, htake⟩
    · obtain rfl : cs = [] := List.length_eq_zero_iff.1 (by simpa using h.1)
      exact ⟨none, 0, e, by simp, by omega, fun _ => ⟨rfl, rfl⟩, fun j v hv => by simp at hv⟩
    · subst e
      refine ⟨_, cap, rfl, h.1, hnc, fun e => by simp at e, fun j v hv => ⟨g, 0, rfl, ?_⟩⟩
      have hj : j < cs.length := (List.getElem?_eq_some_iff.1 hv).1
      have := World.ownsRow.cellAt h j (by rw [← h.1]; exact hj)
      rw [Nat.zero_add, this, hv]
  · exact ⟨some ad, 0, rfl, by simp, by omega, fun e => by simp at e, fun j v hv => by simp at hv⟩
theorem RLk.len {w : World} {base : Nat} {e : TypeId} {sz : Nat} {v : Value} {n : Nat} {cs : List Value} (h : RLk w base e sz v n cs) : cs.length = n * sz := by
  obtain ⟨a, c, _, hr⟩ := h.row
  exact hr.size

theorem run_append_empty {P : Program} (w : World) (t ty e : TypeId) (i : TypeInfo) (ht : P.underlying t = some (.slice e)) (hi : P.info? e = some i) (b a : Option Addr) (n cap c : Nat) (hn : n ≤ cap) :
    (Builtin.append_ #[t, t] ty #[.slice b n cap, .slice a 0 c]).run P w = .ok (.slice b n cap) w := by
  cases b <;> cases a <;> simp [Builtin.append_, run_underlying ht, sizeOf, typeInfo, hi, Builtin.lenOf, hn, Builtin.firstCells, loadCells, loadCellsFrom, storeCells]
theorem wpList_append_empty {P : Program} {w : World} {ops : Array Oper} {rest : List Oper} {o : Oper} {a : Act} {Q : Exit → Act → World → Prop} (hgd : o.guard = none) (s x : Operand) (t : TypeId)
    (ho : o.op = .call { callee := .builtin .append, args := #[s, x], argTypes := #[t, t] }) (e : TypeId) (i : TypeInfo) (ht : P.underlying t = some (.slice e)) (hi : P.info? e = some i)
    (b ad : Option Addr) (n cap c : Nat) (hn : n ≤ cap) (hs : a.eval s = .slice b n cap) (hx : a.eval x = .slice ad 0 c)
    (h : wpList P ops Q rest (a.put o.dst (.slice b n cap)) w) : wpList P ops Q (o :: rest) a w := by
  refine wpList_plain hgd fun K hK => ?_
  have hrun := run_append_empty (P := P) w t o.type e i ht hi b ad n cap c hn
  unfold Oper.wp
  simp [execOp, ho, resolve, invoke, builtin, hs, hx, hrun, Result.andThen]
  exact hK _ _ h

theorem eql_slice_nil {P : Program} (w : World) (t e : TypeId) (a : Option Addr) (n c : Nat) (h : P.underlying t = some (.slice e)) :
    (binOp .eql t (.slice a n c) (.slice none 0 0)).run P w = .ok (.bool a.isNone) w := by
  simp only [binOp]
  simp [Op.equal, Op.maxDepth, Lib.run_equalIn_slice_nil w 9999 t e a n c 0 0 h]

theorem add_lit' (b off i : Nat) : (⟨b, off, none⟩ : Addr).add i = ⟨b, off + i, none⟩ := by
  unfold Addr.add
  split <;> simp_all

/-- append of whatever row to a row of the call's own, or to an empty one. -/
theorem append_rows {P : Program} {w : World} {ops : Array Oper} {rest : List Oper} {o : Oper} {act : Act} {Q : Exit → Act → World → Prop} (hgd : o.guard = none) (s x : Operand) (t : TypeId)
    (ho : o.op = .call { callee := .builtin .append, args := #[s, x], argTypes := #[t, t] })
    (e : TypeId) (i : TypeInfo) (z : Value) (size bytes : Nat) (h1 : P.underlying t = some (.slice e)) (h2 : P.info? e = some i) (h3 : i.zero = some z) (h4 : i.size = size) (h5 : i.bytes = bytes) (h6 : z.cells.size = size) (h7 : 0 < size)
    (base : Nat) (v : Value) (n : Nat) (xs : List Value) (hs : act.eval s = v) (hv : RLk w base e size v n xs)
    (a : Option Addr) (m c : Nat) (cs : List Value) (hx : act.eval x = .slice a m c) (hr : Row w a m c size cs) (one : ∀ u ∈ cs, u.oneCell' = true)
    (b1 : n + m ≤ maxLen) (b2 : (n + m) * bytes ≤ 140737488355328) (hbase : base ≤ w.heap.size)
    (h : ∀ v' w', RLk w' base e size v' (n + m) (xs ++ cs) → Below base w w' → wpList P ops Q rest (act.put o.dst v') w') : wpList P ops Q (o :: rest) act w := by
  by_cases hm : m = 0
  · subst hm
    obtain rfl : cs = [] := List.length_eq_zero_iff.1 (by simpa using hr.size)
    obtain ⟨b, cap, rfl, hb⟩ := hv.row
    refine wpList_append_empty hgd s x t ho e i h1 h2 b a n cap c hb.fit hs hx ?_
    exact h _ w (by simpa using hv) (Below.refl _ _)
  · match a, hx, hr with
    | none, hx, hr => exact absurd (hr.null rfl).1 hm
    | some ad, hx, hr =>
      have hcell : ∀ j u, cs[j]? = some u → w.cell? (ad.add j) = some u := fun j u hu => by
        obtain ⟨b, off, ha, hc⟩ := hr.cell j u hu
        simp only [Option.some.injEq] at ha
        subst ha
        rw [add_lit']
        exact hc
      rcases hv with hv | ⟨rfl, rfl, ad', rfl⟩
      · refine wpList_append_own w hgd s x t ho base e i z size bytes h1 h2 h3 h4 h5 h6 h7 v n xs hs hv ad m c cs hx hr.size hcell one b1 b2 hbase ?_
        intro v' w' k1 k2 _
        exact h v' w' (.inl k1) ((Below.refl _ _).grown k2 hbase (fun j e => (World.ownsRow.lt hv j e).1))
      · refine wpList_append_grows w hgd s x t ho e i z size bytes h1 h2 h3 h4 h5 h6 h7 (some ad') 0 0 [] hs (fun e => by simp at e) (by simp) (fun _ _ j u hu => by simp at hu) ad m c cs hx hr.size hcell one (by omega) b1 b2 ?_
        intro v' w' k1 k2
        exact h v' w' (.inl (ownsRow_weaken k1 hbase)) ((Below.refl _ _).grown k2 hbase (fun k hk => by simp at hk))

theorem run_append_rows {P : Program} {w : World} (t ty : TypeId)
    (e : TypeId) (i : TypeInfo) (z : Value) (size bytes : Nat) (h1 : P.underlying t = some (.slice e)) (h2 : P.info? e = some i) (h3 : i.zero = some z) (h4 : i.size = size) (h5 : i.bytes = bytes) (h6 : z.cells.size = size) (h7 : 0 < size)
    (base : Nat) (v : Value) (n : Nat) (xs : List Value) (hv : RLk w base e size v n xs)
    (a : Option Addr) (m c : Nat) (cs : List Value) (hr : Row w a m c size cs) (one : ∀ u ∈ cs, u.oneCell' = true)
    (b1 : n + m ≤ maxLen) (b2 : (n + m) * bytes ≤ 140737488355328) (hbase : base ≤ w.heap.size) :
    ∃ v' w', (Builtin.append_ #[t, t] ty #[v, .slice a m c]).run P w = .ok v' w' ∧ RLk w' base e size v' (n + m) (xs ++ cs) ∧ Below base w w' := by
  by_cases hm : m = 0
  · subst hm
    obtain rfl : cs = [] := List.length_eq_zero_iff.1 (by simpa using hr.size)
    obtain ⟨b, cap, rfl, hb⟩ := hv.row
    exact ⟨_, w, run_append_empty (P := P) w t ty e i h1 h2 b a n cap c hb.fit, by simpa using hv, Below.refl _ _⟩
  · match a, hr with
    | none, hr => exact absurd (hr.null rfl).1 hm
    | some ad, hr =>
      have hcell : ∀ j u, cs[j]? = some u → w.cell? (ad.add j) = some u := fun j u hu => by
        obtain ⟨b, off, ha, hc⟩ := hr.cell j u hu
        simp only [Option.some.injEq] at ha
        subst ha
        rw [add_lit']
        exact hc
      rcases hv with hv | ⟨rfl, rfl, ad', rfl⟩
      · obtain ⟨v', w', hrun, k1, k2, _⟩ := run_append_own (P := P) w base t ty e i z size bytes h1 h2 h3 h4 h5 h6 h7 v n xs hv ad m c cs hr.size hcell one b1 b2 hbase
        exact ⟨v', w', hrun, .inl k1, (Below.refl _ _).grown k2 hbase (fun j e => (World.ownsRow.lt hv j e).1)⟩
      · obtain ⟨v', w', hrun, r1, r2⟩ := run_append_arg_grows (P := P) w t ty e i z size bytes h1 h2 h3 h4 h5 h6 h7 ad' 0 0 [] (by simp) (fun j u hu => by simp at hu) ad m c cs hr.size hcell (by omega) b1 b2
        exact ⟨v', w', hrun, .inl (ownsRow_weaken r1 hbase), (Below.refl _ _).grown r2 hbase (fun k hk => by simp at hk)⟩

/-- The same as one step of a statement whose order Go leaves open. -/
theorem step_rows {P : Program} {w : World} {ops : Array Oper} {o : Oper} {act : Act} {K : Act → World → Prop} {Q : Exit → Act → World → Prop} {EE : Prop} (hgd : o.guard = none) (s x : Operand) (t : TypeId)
    (ho : o.op = .call { callee := .builtin .append, args := #[s, x], argTypes := #[t, t] })
    (e : TypeId) (i : TypeInfo) (z : Value) (size bytes : Nat) (h1 : P.underlying t = some (.slice e)) (h2 : P.info? e = some i) (h3 : i.zero = some z) (h4 : i.size = size) (h5 : i.bytes = bytes) (h6 : z.cells.size = size) (h7 : 0 < size)
    (base : Nat) (v : Value) (n : Nat) (xs : List Value) (hs : act.eval s = v) (hv : RLk w base e size v n xs)
    (a : Option Addr) (m c : Nat) (cs : List Value) (hx : act.eval x = .slice a m c) (hr : Row w a m c size cs) (one : ∀ u ∈ cs, u.oneCell' = true)
    (b1 : n + m ≤ maxLen) (b2 : (n + m) * bytes ≤ 140737488355328) (hbase : base ≤ w.heap.size)
    (h : ∀ v' w', RLk w' base e size v' (n + m) (xs ++ cs) → Below base w w' → K (act.put o.dst v') w') :
    if Region.wanted o (yielded ops act.tmps) = true then Oper.wp P o act w K Q else EE := by
  have hw : Region.wanted o (yielded ops act.tmps) = true := by simp [Region.wanted, hgd]
  rw [if_pos hw]
  obtain ⟨v', w', hrun, k1, k2⟩ := run_append_rows (P := P) (w := w) t o.type e i z size bytes h1 h2 h3 h4 h5 h6 h7 base v n xs hv a m c cs hr one b1 b2 hbase
  unfold Oper.wp execOp
  simp only [ho, resolve, invoke, builtin, Sem.run_bind, Sem.run_pure, Result.andThen_ok, List.map_toArray, List.map_cons, List.map_nil, hs, hx, hrun]
  exact h v' w' k1 k2
end Go.Proofs.YthcmeboepedelaaDoor
