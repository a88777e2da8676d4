/-
  A statement whose order Go leaves open, by what its operations keep: lists that are made and filled in whatever order.
-/
import Derived.Test.YtgbckpojoagbnaaGreatDoorRyOwn
namespace Go.Proofs.YtgbckpojoagbnaaGreatDoor
open Go.RowKit
set_option linter.unusedVariables false
set_option linter.unusedSimpArgs false

/-- A region whose operations come in whatever order: what each of the next n keeps holds behind them; m more come then. -/
theorem wpAnyH_inv {P : Program} {md : Region.Mode} {ops : Array Oper} {Q : Exit → Act → World → Prop} {S : World → Prop} (m : Nat) (I : Nat → Array Bool → Act → World → Prop)
    (hstep : ∀ n listed a w i, I (n + 1) listed a w → i ∈ Region.ready md ops listed → wpOp P ops Q i (fun a' w' => S w' ∧ I n (listed.setIfInBounds i true) a' w') a w)
    (h1 : ∀ n listed a w, I (n + 1) listed a w → Region.ready md ops listed ≠ [])
    (h0 : ∀ listed a w, I 0 listed a w → wpAnyH P md ops Q S m listed a w) :
    ∀ n listed a w, I n listed a w → wpAnyH P md ops Q S (n + m) listed a w := by
  intro n
  induction n with
  | zero => intro listed a w h; rw [Nat.zero_add]; exact h0 listed a w h
  | succ n ih =>
    intro listed a w h
    rw [Nat.succ_add]
    exact ⟨fun e => absurd e (h1 n listed a w h), fun i hi => wpOp_mono (fun a' w' h' => ⟨h'.1, ih _ _ _ h'.2⟩) (hstep n listed a w i h hi)⟩
theorem wpOp_of {P : Program} {ops : Array Oper} {Q : Exit → Act → World → Prop} {K : Act → World → Prop} {i : Nat} {o : Oper} {a : Act} {w : World} (ho : ops[i]? = some o) (hg : o.guard = none) (h : o.wp P a w K Q) : wpOp P ops Q i K a w := by
  unfold wpOp
  simp only [ho]
  rw [if_pos (by simp [Region.wanted, hg])]
  exact .inl h
/-- An empty list is made. -/
theorem wp_empty {P : Program} {o : Oper} {a : Act} {w : World} {K : Act → World → Prop} {Q : Exit → Act → World → Prop} (t e : TypeId) (ho : o.op = .buildSlice t 0 #[]) (hu : P.underlying t = some (.slice e))
    {size bytes : Nat} (hi : ∃ i z, P.info? e = some i ∧ i.zero = some z ∧ i.size = size ∧ i.bytes = bytes ∧ z.cells.size = size) (h0 : 0 < size)
    (h : K (a.put o.dst (.slice (some ⟨w.heap.size, 0, none⟩) 0 0)) (w.alloc (.cells #[] e))) : o.wp P a w K Q := by
  obtain ⟨i, z, h2, h3, h4, h5, h6⟩ := hi
  have hz : i.size ≠ 0 := by omega
  have hrun : (Instr.buildSlice t 0 #[]).run P w = .ok (.slice (some ⟨w.heap.size, 0, none⟩) 0 0) (w.alloc (.cells #[] e)) := by
    simp [Instr.buildSlice, run_underlying hu, sizeOf, typeInfo, zeroValue, h2, h3, Instr.fill, newRow, hz]
    exact congrArg (fun z => w.alloc (.cells z e)) (Array.eq_empty_of_size_eq_zero (by simp))
  unfold Oper.wp execOp
  simp only [ho, Sem.run_bind, Sem.run_pure, Result.andThen_ok, List.map_toArray, List.map_nil, hrun]
  exact h
/-- append of whatever row to a row of the call's own. -/
theorem wp_append_row {P : Program} {w : World} {o : Oper} {act : Act} {K : Act → World → Prop} {Q : Exit → Act → World → Prop} (s x : Operand) (t e : TypeId)
    (ho : o.op = .call { callee := .builtin .append, args := #[s, x], argTypes := #[t, t] }) (ht : P.underlying t = some (.slice e))
    {size bytes : Nat} (hi : ∃ i z, P.info? e = some i ∧ i.zero = some z ∧ i.size = size ∧ i.bytes = bytes ∧ z.cells.size = size) (h0 : 0 < size)
    (base : Nat) (v : Value) (n : Nat) (xs : List Value) (hs : act.eval s = v) (hv : w.ownsRow base e size v n xs)
    (a : Option Addr) (m c : Nat) (cs : List Value) (hx : act.eval x = .slice a m c) (hr : Row w a m c size cs) (one : ∀ u ∈ cs, u.oneCell' = true)
    (b1 : n + m ≤ maxLen) (b2 : (n + m) * bytes ≤ 140737488355328) (hbase : base ≤ w.heap.size)
    (h : ∀ v' w', w'.ownsRow base e size v' (n + m) (xs ++ cs) → w.grownBy w' v.ownBlock → K (act.put o.dst v') w') : o.wp P act w K Q := by
  obtain ⟨i, z, h2, h3, h4, h5, h6⟩ := hi
  obtain ⟨v', w', hrun, k1, k2⟩ : ∃ v' w', (Builtin.append_ #[t, t] o.type #[v, .slice a m c]).run P w = .ok v' w' ∧ w'.ownsRow base e size v' (n + m) (xs ++ cs) ∧ w.grownBy w' v.ownBlock := by
    by_cases hm : m = 0
    · subst hm
      obtain rfl : cs = [] := List.length_eq_zero_iff.1 (by simpa using hr.size)
      obtain ⟨b, cap, rfl, hb⟩ := RLk.row (.inl hv)
      exact ⟨_, w, run_append_empty (P := P) w t o.type e i ht h2 b a n cap c hb.fit, by simpa using hv, ⟨rfl, rfl, rfl, Nat.le_refl _, fun _ _ _ => rfl⟩⟩
    · match a, hx, hr with
      | none, hx, hr => exact absurd (hr.null rfl).1 hm
      | some ad, hx, hr =>
        have hcell : ∀ j u, cs[j]? = some u → w.cell? (ad.add j) = some u := fun j u hu => by
          obtain ⟨b, off, ha, hc⟩ := hr.cell j u hu
          simp only [Option.some.injEq] at ha
          subst ha
          rw [add_lit']
          exact hc
        obtain ⟨v', w', hrun, k1, k2, _⟩ := run_append_own (P := P) w base t o.type e i z size bytes ht h2 h3 h4 h5 h6 h0 v n xs hv ad m c cs hr.size hcell one b1 b2 hbase
        exact ⟨v', w', hrun, k1, k2⟩
  unfold Oper.wp execOp
  simp only [ho, resolve, invoke, builtin, Sem.run_bind, Sem.run_pure, Result.andThen_ok, List.map_toArray, List.map_cons, List.map_nil, hs, hx, hrun]
  exact h v' w' k1 k2
/-- Rows of unlike elements share no block: a block bears its elements' type. -/
theorem own_sep {w : World} {base base' : Nat} {e e' : TypeId} {sz sz' : Nat} {v v' : Value} {n n' : Nat} {cs cs' : List Value} (h : w.ownsRow base e sz v n cs) (h' : w.ownsRow base' e' sz' v' n' cs') (hne : e ≠ e') : Sep v v' := by
  rcases h.2 with ⟨rfl, _⟩ | ⟨g, cap, cur, rfl, _, hg, _⟩
  · exact .inl rfl
  · rcases h'.2 with ⟨rfl, _⟩ | ⟨g', cap', cur', rfl, _, hg', _⟩
    · exact .inr (by simp [Value.ownBlock])
    · refine .inr fun e1 => ?_
      have e2 : g = g' := Option.some.inj e1
      subst e2
      rw [hg] at hg'
      simp only [Option.some.injEq, Obj.cells.injEq] at hg'
      exact hne hg'.2.1
/-- A list under way: made (b), filled (c); x and y: what the two slots hold. -/
structure Lst (w : World) (base : Nat) (e : TypeId) (sz : Nat) (b c : Bool) (x y : Option Value) (n : Nat) (cs : List Value) : Prop where
  made : b = true → c = false → ∃ v, x = some v ∧ w.ownsRow base e sz v 0 []
  full : c = true → ∃ v, y = some v ∧ w.ownsRow base e sz v n cs
  dep : c = true → b = true
theorem Lst.below {w w' : World} {base : Nat} {e : TypeId} {sz : Nat} {b c : Bool} {x y : Option Value} {n : Nat} {cs : List Value} (h : Lst w base e sz b c x y n cs) (hb : Below w.heap.size w w') : Lst w' base e sz b c x y n cs :=
  ⟨fun h1 h2 => (h.made h1 h2).imp fun v hv => ⟨hv.1, ownsRow_below hv.2 hb⟩, fun h1 => (h.full h1).imp fun v hv => ⟨hv.1, ownsRow_below hv.2 hb⟩, h.dep⟩
theorem Lst.grown {w w' : World} {base base' : Nat} {e e' : TypeId} {sz sz' : Nat} {b c : Bool} {x y : Option Value} {n n' : Nat} {cs cs' : List Value} {u : Value} (h : Lst w base e sz b c x y n cs) (hu : w.ownsRow base' e' sz' u n' cs') (hne : e ≠ e') (hg : w.grownBy w' u.ownBlock) : Lst w' base e sz b c x y n cs :=
  ⟨fun h1 h2 => (h.made h1 h2).imp fun v hv => ⟨hv.1, hv.2.kept hg (own_sep hv.2 hu hne)⟩, fun h1 => (h.full h1).imp fun v hv => ⟨hv.1, hv.2.kept hg (own_sep hv.2 hu hne)⟩, h.dep⟩
theorem lst_none {w : World} {base : Nat} {e : TypeId} {sz : Nat} {x y : Option Value} {n : Nat} {cs : List Value} : Lst w base e sz false false x y n cs :=
  ⟨fun h => by simp at h, fun h => by simp at h, fun h => by simp at h⟩
theorem lst_made {w : World} {base : Nat} {e : TypeId} {sz : Nat} {y : Option Value} {n : Nat} {cs : List Value} {v : Value} (h : w.ownsRow base e sz v 0 []) : Lst w base e sz true false (some v) y n cs :=
  ⟨fun _ _ => ⟨v, rfl, h⟩, fun h => by simp at h, fun h => by simp at h⟩
theorem lst_full {w : World} {base : Nat} {e : TypeId} {sz : Nat} {x : Option Value} {n : Nat} {cs : List Value} {v : Value} (h : w.ownsRow base e sz v n cs) : Lst w base e sz true true x (some v) n cs :=
  ⟨fun _ h => by simp at h, fun _ => ⟨v, rfl, h⟩, fun _ => rfl⟩
/-- The slots but for six of them are as they were. -/
structure Ag (D : List Nat) (xs ys : Array Value) : Prop where
  size : ys.size = xs.size
  same : ∀ j, j ∉ D → ys[j]? = xs[j]?
theorem Ag.set {D : List Nat} {xs ys : Array Value} (h : Ag D xs ys) {d : Nat} (hd : d ∈ D) (v : Value) : Ag D xs (ys.setIfInBounds d v) :=
  ⟨by rw [Array.size_setIfInBounds]; exact h.size, fun j hj => by
    rw [Array.getElem?_setIfInBounds_ne (show d ≠ j from fun e => hj (by rw [← e]; exact hd))]
    exact h.same j hj⟩
theorem ag_refl (D : List Nat) (xs : Array Value) : Ag D xs xs := ⟨rfl, fun _ _ => rfl⟩
theorem Ag.step {d : Nat} {D : List Nat} {xs ys : Array Value} (h : Ag (d :: D) xs ys) (hd : d < xs.size) : Ag D (xs.setIfInBounds d (ys.getD d undef)) ys := by
  refine ⟨by rw [Array.size_setIfInBounds]; exact h.size, fun j hj => ?_⟩
  have hy : d < ys.size := by rw [h.size]; exact hd
  by_cases e : d = j
  · subst e
    rw [Array.getElem?_setIfInBounds_self_of_lt hd, Array.getElem?_eq_getElem hy]
    simp [hy]
  · rw [Array.getElem?_setIfInBounds_ne e]
    exact h.same j (fun hm => by
      rcases List.mem_cons.1 hm with e' | e'
      · exact e e'.symm
      · exact hj e')
theorem Ag.eq {xs ys : Array Value} (h : Ag [] xs ys) : ys = xs := Array.ext_getElem? fun j => h.same j (by simp)
theorem getD_of {ts : Array Value} {d : Nat} {v : Value} (h : ts[d]? = some v) : ts.getD d undef = v := by
  rw [Array.getD_eq_getD_getElem?, h]
  rfl
theorem set_at {ts xs : Array Value} {D : List Nat} (h : Ag D xs ts) {d : Nat} (hd : d < xs.size) (v : Value) : (ts.setIfInBounds d v)[d]? = some v :=
  Array.getElem?_setIfInBounds_self_of_lt (by rw [h.size]; exact hd)
theorem set_ne {ts : Array Value} {d j : Nat} (h : d ≠ j) (v : Value) : (ts.setIfInBounds d v)[j]? = ts[j]? := Array.getElem?_setIfInBounds_ne h
end Go.Proofs.YtgbckpojoagbnaaGreatDoor
