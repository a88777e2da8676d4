/-
  Looking a letter up, laying one down, taking one away; find, add, spoil, New.
-/
import Derived.Test.YtgnkmenjjmfcfaaDoorLkMap
import Derived.Test.YtgnkmenjjmfcfaaDoorErrCodeQ
import Derived.Deep.RegionHeld3
import Derived.Deep.MidRow
namespace Go.Proofs.YtgnkmenjjmfcfaaDoor
open Go.RowKit FerryCrc Q
open Go.Maps (Keyed)
set_option linter.unusedVariables false
set_option linter.unusedSimpArgs false
def fv (L : Lk) (k : Int) : Lt := (L.M k).getD zLt
def fE (L : Lk) (k : Int) : Nat := if (L.M k).isSome then 0 else 17
/-- An error of that number; 0: none. -/
def erv (E : Nat → Addr) (k : Nat) : Value := if k = 0 then .nilIface else sent (E k)
theorem zeroLet (w : World) : (zeroValue 74).run Tryd.prog w = .ok zLt.v w := by kernel_rfl
theorem undMap : Tryd.prog.underlying 59 = some (.map 3 74) := by kernel_rfl
theorem wp_look {ops : Array Oper} {rest : List Oper} {o : Oper} {a : Act} {Q : Exit → Act → World → Prop} (w : World) (hg : o.guard = none) (m x : Operand) (hop : o.op = Op.lookup 59 m x true) {lb mb : Nat} {L : Lk} (h : LAt w lb mb L) (hm : a.eval m = .map (some mb)) (k : Int) (h1 : -9223372036854775808 ≤ k) (h2 : k ≤ 9223372036854775807) (hx : a.eval x = .int .i64 k)
    (hK : ∀ f t s sp, fv L k = ⟨f, t, s, sp⟩ → wpList Tryd.prog ops Q rest (a.put o.dst (.tuple #[.agg #[.int .i64 f, .int .i64 t, .string s, .bool sp], .bool (L.M k).isSome])) w) : wpList Tryd.prog ops Q (o :: rest) a w := by
  obtain ⟨D, h3, h4⟩ := h.own
  refine wpList_lookup_own_ok w hg m x _ hop _ _ keyI undMap letR (zeroLet w) zLt.d [] rfl mb L.n D hm h3 _ (kl k) hx (keyOf_kl h1 h2) ?_
  intro v ps hv
  obtain ⟨y, rfl, hy⟩ := letR_inv hv
  have hy1 : D.atKey (kl k) zLt.d = y.d := congrArg Prod.fst hy
  have e : fv L k = y := by
    unfold fv
    cases hM : L.M k with
    | none =>
      have h5 := h4.has k
      rw [hM] at h5
      rw [Maps.atKey_of_not_has h5] at hy1
      exact Lt.d_inj hy1
    | some z =>
      rw [h4.get k z zLt.d hM] at hy1
      exact Lt.d_inj hy1
  rw [h4.has k]
  exact hK y.f y.t y.s y.sp e
/-- A letter laid down. -/
theorem wp_lay {ops : Array Oper} {rest : List Oper} {o : Oper} {a : Act} {Q : Exit → Act → World → Prop} (w : World) (hg : o.guard = none) (m x v : Operand) (hop : o.op = Op.mapUpdate 59 m x v) {mb n : Nat} {M : Int → Option Lt} (h : ∃ D, w.ownsMap Tryd.prog 3 letR mb n D ∧ MIs D M) (hn : n < 9223372036854775807) (hm : a.eval m = .map (some mb)) (k : Int) (h1 : -9223372036854775808 ≤ k) (h2 : k ≤ 9223372036854775807) (hx : a.eval x = .int .i64 k) (f t : Int) (s : ByteArray) (sp : Bool) (hv : a.eval v = .agg #[.int .i64 f, .int .i64 t, .string s, .bool sp])
    (hK : ∀ w', (∃ D, w'.ownsMap Tryd.prog 3 letR mb (n + 1) D ∧ MIs D (setM M k (some ⟨f, t, s, sp⟩))) → w.grownBy w' (some mb) → wpList Tryd.prog ops Q rest (a.put o.dst undef) w') : wpList Tryd.prog ops Q (o :: rest) a w := by
  obtain ⟨D, h3, h4⟩ := h
  refine wpList_mapUpdate_own w hg m x v _ hop _ _ keyI undMap letR mb n D hm h3 (by unfold maxLen; omega) _ _ (kl k) hx hv (keyOf_kl h1 h2) (Lt.mk f t s sp).d [] (letR_mk ⟨f, t, s, sp⟩) ?_
  intro w' q1 q2
  exact hK w' ⟨_, q1, h4.put h3.isMap k _⟩ q2
/-- A letter laid down where one was. -/
theorem wp_relay {ops : Array Oper} {rest : List Oper} {o : Oper} {a : Act} {Q : Exit → Act → World → Prop} (w : World) (hg : o.guard = none) (m x v : Operand) (hop : o.op = Op.mapUpdate 59 m x v) {mb n : Nat} {M : Int → Option Lt} (h : ∃ D, w.ownsMap Tryd.prog 3 letR mb n D ∧ MIs D M) (hn : n < 9223372036854775807) (hm : a.eval m = .map (some mb)) (k : Int) (h1 : -9223372036854775808 ≤ k) (h2 : k ≤ 9223372036854775807) (hsome : (M k).isSome = true) (hx : a.eval x = .int .i64 k) (f t : Int) (s : ByteArray) (sp : Bool) (hv : a.eval v = .agg #[.int .i64 f, .int .i64 t, .string s, .bool sp])
    (hK : ∀ w', (∃ D, w'.ownsMap Tryd.prog 3 letR mb n D ∧ MIs D (setM M k (some ⟨f, t, s, sp⟩))) → w.grownBy w' (some mb) → wpList Tryd.prog ops Q rest (a.put o.dst undef) w') : wpList Tryd.prog ops Q (o :: rest) a w := by
  obtain ⟨D, h3, h4⟩ := h
  refine wpList_mapUpdate_own w hg m x v _ hop _ _ keyI undMap letR mb n D hm h3 (by unfold maxLen; omega) _ _ (kl k) hx hv (keyOf_kl h1 h2) (Lt.mk f t s sp).d [] (letR_mk ⟨f, t, s, sp⟩) ?_
  intro w' q1 q2
  refine hK w' ⟨_, ?_, h4.put h3.isMap k _⟩ q2
  have h5 := Maps.size_put (k := kl k) (h3.tidy keyI) (Lt.mk f t s sp).d
  rw [h4.has k, hsome, if_pos rfl] at h5
  have h6 := h3.size_le
  obtain ⟨es, clock, p1, p2, p3, p4⟩ := q1
  refine ⟨es, clock, p1, p2, ?_, p4⟩
  rw [p4, Maps.size_eq, length_read] at h5
  omega
theorem wp_del {ops : Array Oper} {rest : List Oper} {o : Oper} {a : Act} {Q : Exit → Act → World → Prop} (w : World) (hg : o.guard = none) (m x : Operand) (hop : o.op = Op.call { callee := Callee.builtin Builtin.delete, args := #[m, x], argTypes := #[59, 3] }) {lb mb : Nat} {L : Lk} (h : LAt w lb mb L) (hm : a.eval m = .map (some mb)) (k : Int) (h1 : -9223372036854775808 ≤ k) (h2 : k ≤ 9223372036854775807) (hx : a.eval x = .int .i64 k)
    (hK : ∀ w', LAt w' lb mb ⟨L.n, setM L.M k none⟩ → w.grownBy w' (some mb) → wpList Tryd.prog ops Q rest (a.put o.dst (.tuple #[])) w') : wpList Tryd.prog ops Q (o :: rest) a w := by
  obtain ⟨D, h3, h4⟩ := h.own
  refine wpList_delete_own w hg m x _ _ hop _ keyI undMap letR mb L.n D hm h3 _ (kl k) hx (keyOf_kl h1 h2) ?_
  intro w' q1 q2
  have hg2 := q2.grown
  refine hK w' ⟨?_, ⟨_, q1, h4.del k⟩, fun j y hj => ?_, fun j y hj => ?_⟩ hg2
  · have h5 := h.bk
    unfold Bk at *
    rw [hg2.block lb h.lb_lt (fun e => h.ne (Option.some.inj e).symm)]
    exact h5
  · replace hj : setM L.M k none j = some y := hj
    by_cases e : j = k
    · subst e
      rw [setM_same] at hj
      cases hj
    · rw [setM_ne _ _ e] at hj
      exact h.ok j y hj
  · replace hj : setM L.M k none j = some y := hj
    by_cases e : j = k
    · subst e
      rw [setM_same] at hj
      cases hj
    · rw [setM_ne _ _ e] at hj
      exact h.sz j y hj
end Go.Proofs.YtgnkmenjjmfcfaaDoor
