/-
  Of the law: from; a table that shows its lists.
-/
import Derived.Test.YtgbckpojoagbnaaGreatDoorRyLaw
import Derived.Test.YtgbckpojoagbnaaGreatDoorRyKeep
import Derived.Test.YtgbckpojoagbnaaGreatDoorRyEq
namespace Go.Proofs.YtgbckpojoagbnaaGreatDoor
open Go.RowKit
set_option linter.unusedVariables false
set_option linter.unusedSimpArgs false

theorem from_any (w : World) (v1 v2 v3 : Value) (h1 : ∃ a n c, v1 = .slice a n c) (h2 : ∃ a n c, v2 = .slice a n c) (h3 : ∃ a n c, v3 = .slice a n c) :
    Calls Tryz.prog 33 #[.agg #[v1, v2, v3]] w fun e w' => e = .returned (.agg #[v1, v2, v3]) ∧ Below w.heap.size w w' := by
  obtain ⟨a1, n1, c1, rfl⟩ := h1
  obtain ⟨a2, n2, c2, rfl⟩ := h2
  obtain ⟨a3, n3, c3, rfl⟩ := h3
  go_enter Tryz.func33, Tryz.ntmps33
  go_wp2
  refine bodyPost_ret (v := .agg #[.slice a1 n1 c1, .slice a2 n2 c2, .slice a3 n3 c3]) (by simp [results, Tryz.results33, go_sem]) rfl ?_
  exact ⟨rfl, chain (new_below _ _) (new_below _ _)⟩
/-- append to a row of the call's own, as one step of a statement whose order Go leaves open, behind a guard. -/
theorem step_own_w {w : World} {ops : Array Oper} {o : Oper} {act : Act} {K : Act → World → Prop} {Q : Exit → Act → World → Prop} {EE : Prop} (hw : Region.wanted o (yielded ops act.tmps) = true) (s x : Operand) (t e : TypeId)
    (ho : o.op = .call { callee := .builtin .append, args := #[s, x], argTypes := #[t, t] }) (ht : Tryz.prog.underlying t = some (.slice e))
    {size bytes : Nat} (hi : ∃ i z, Tryz.prog.info? e = some i ∧ i.zero = some z ∧ i.size = size ∧ i.bytes = bytes ∧ z.cells.size = size) (h0 : 0 < size)
    (base : Nat) (v : Value) (n : Nat) (xs : List Value) (hs : act.eval s = v) (hv : w.ownsRow base e size v n xs)
    (a : Option Addr) (m c : Nat) (cs : List Value) (hx : act.eval x = .slice a m c) (hr : Row w a m c size cs) (one : ∀ u ∈ cs, u.oneCell' = true)
    (b1 : n + m ≤ maxLen) (b2 : (n + m) * bytes ≤ 140737488355328) (hbase : base ≤ w.heap.size)
    (h : ∀ v' w', w'.ownsRow base e size v' (n + m) (xs ++ cs) → Below base w w' → K (act.put o.dst v') w') :
    if Region.wanted o (yielded ops act.tmps) = true then Oper.wp Tryz.prog o act w K Q else EE := by
  rw [if_pos hw]
  obtain ⟨i, z, h2, h3, h4, h5, h6⟩ := hi
  obtain ⟨v', w', hrun, k1, k2⟩ : ∃ v' w', (Builtin.append_ #[t, t] o.type #[v, .slice a m c]).run Tryz.prog w = .ok v' w' ∧ w'.ownsRow base e size v' (n + m) (xs ++ cs) ∧ Below base w w' := by
    by_cases hm : m = 0
    · subst hm
      obtain rfl : cs = [] := List.length_eq_zero_iff.1 (by simpa using hr.size)
      obtain ⟨b, cap, rfl, hb⟩ := RLk.row (.inl hv)
      exact ⟨_, w, run_append_empty (P := Tryz.prog) w t o.type e i ht h2 b a n cap c hb.fit, by simpa using hv, Below.refl _ _⟩
    · match a, hx, hr with
      | none, hx, hr => exact absurd (hr.null rfl).1 hm
      | some ad, hx, hr =>
        have hcell : ∀ j u, cs[j]? = some u → w.cell? (ad.add j) = some u := fun j u hu => by
          obtain ⟨b, off, ha, hc⟩ := hr.cell j u hu
          simp only [Option.some.injEq] at ha
          subst ha
          rw [add_lit']
          exact hc
        obtain ⟨v', w', hrun, k1, k2, _⟩ := run_append_own (P := Tryz.prog) w base t o.type e i z size bytes ht h2 h3 h4 h5 h6 h0 v n xs hv ad m c cs hr.size hcell one b1 b2 hbase
        exact ⟨v', w', hrun, k1, (Below.refl _ _).grown k2 hbase (fun j e => (World.ownsRow.lt hv j e).1)⟩
  unfold Oper.wp execOp
  simp only [ho, resolve, invoke, builtin, Sem.run_bind, Sem.run_pure, Result.andThen_ok, List.map_toArray, List.map_cons, List.map_nil, hs, hx, hrun]
  exact h v' w' k1 k2
/-- Two tables of answers, in memory, that show the same. -/
theorem tab_lists {w : World} {base : Nat} {a1 : Option Addr} {n1 c1 : Nat} {a2 : Option Addr} {n2 c2 : Nat} {a3 : Option Addr} {n3 c3 : Nat} {l : List Pro} {r : List Int} {t : List Tm} (h : Tab w base (.slice a1 n1 c1) (.slice a2 n2 c2) (.slice a3 n3 c3) l r t) : Pros w a1 n1 c1 l ∧ Is w a2 n2 c2 r ∧ Tms w a3 n3 c3 t := by
  obtain ⟨a, c, e, h1⟩ := prown_pros h.p
  obtain ⟨a', c', e', h2⟩ := iown_is h.r
  obtain ⟨a'', c'', e'', h3⟩ := town_tms h.t
  simp only [Value.slice.injEq] at e e' e''
  obtain ⟨rfl, rfl, rfl⟩ := e
  obtain ⟨rfl, rfl, rfl⟩ := e'
  obtain ⟨rfl, rfl, rfl⟩ := e''
  exact ⟨h1, h2, h3⟩

theorem held6 {W wz : World} {b g : Nat} {x y z u v t : Value} (hb : Bl W b [x, y, z]) (hl : b < W.heap.size) (hg : Bl W g [u, v, t]) (hl' : g < W.heap.size) (h : Below W.heap.size W wz) : wz.cell? ⟨b, 0, none⟩ = some x ∧ wz.cell? ⟨b, 1, none⟩ = some y ∧ wz.cell? ⟨b, 2, none⟩ = some z ∧ wz.cell? ⟨g, 0, none⟩ = some u ∧ wz.cell? ⟨g, 1, none⟩ = some v ∧ wz.cell? ⟨g, 2, none⟩ = some t := by
  obtain ⟨h1, h2, h3⟩ := heldC hb hl h
  obtain ⟨h4, h5, h6⟩ := heldC hg hl' h
  exact ⟨h1, h2, h3, h4, h5, h6⟩

end Go.Proofs.YtgbckpojoagbnaaGreatDoor
