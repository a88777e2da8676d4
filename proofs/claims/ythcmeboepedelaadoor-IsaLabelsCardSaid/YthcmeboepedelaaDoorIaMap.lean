/-
  The labels: a map from texts to numbers.
-/
import Derived.Test.YthcmeboepedelaaDoorIaBase
import Derived.Maps.OwnSet
import Derived.Maps.Views
import Derived.StringKeys
namespace Go.Proofs.YthcmeboepedelaaDoor
open Go.RowKit FerryCrc
open Go.Maps (Keyed)
set_option linter.unusedVariables false
set_option linter.unusedSimpArgs false
def intR (v : Value) : Option (DataW Unit × List MemPlace) :=
  match v with
  | .int .i64 a => some (.lit (.int .i64 a), [])
  | _ => none
theorem intR_inv {v : Value} {y : DataW Unit × List MemPlace} (h : intR v = some y) : ∃ a : Int, v = .int .i64 a ∧ y = (.lit (.int .i64 a), []) := by
  unfold intR at h
  split at h
  · rename_i a
    exact ⟨a, rfl, (Option.some.inj h).symm⟩
  · cases h
def ks (s : ByteArray) : Lit := .string s.data.toList
theorem ks_key (s : ByteArray) : WideAt.IsKeyLit (ks s) := trivial
theorem ks_ne {s t : ByteArray} (h : t ≠ s) : ks t ≠ ks s := fun e => h (by
  injection e with e
  exact ByteArray.ext (Array.ext' e))
structure SIs (D : DataW Unit) (M : ByteArray → Option Int) : Prop where
  has : ∀ k, Maps.has D (ks k) = (M k).isSome
  get : ∀ k (x : Int) (zd : DataW Unit), M k = some x → D.atKey (ks k) zd = .lit (.int .i64 x)
theorem sis_none : SIs (.map [] : DataW Unit) (fun _ => none) := ⟨fun _ => rfl, fun _ _ _ h => by cases h⟩
def setS (M : ByteArray → Option Int) (k : ByteArray) (x : Int) : ByteArray → Option Int := fun j => if j = k then some x else M j
theorem setS_same (M : ByteArray → Option Int) (k : ByteArray) (x : Int) : setS M k x k = some x := if_pos rfl
theorem setS_ne (M : ByteArray → Option Int) {k j : ByteArray} (x : Int) (h : j ≠ k) : setS M k x j = M j := if_neg h
theorem SIs.put {D : DataW Unit} {M : ByteArray → Option Int} (h : SIs D M) (hD : Maps.IsMap D) (k : ByteArray) (x : Int) : SIs (D.put (ks k) (.lit (.int .i64 x))) (setS M k x) := by
  refine ⟨fun j => ?_, fun j y zd hj => ?_⟩
  · by_cases e : j = k
    · subst e
      rw [Maps.has_put_same hD (ks_key _), setS_same]
      rfl
    · rw [Maps.has_put_other (ks_ne e), setS_ne _ _ e]
      exact h.has j
  · by_cases e : j = k
    · subst e
      rw [setS_same] at hj
      obtain rfl := Option.some.inj hj
      exact Maps.atKey_put_same hD (ks_key _) _ _
    · rw [setS_ne _ _ e] at hj
      rw [Maps.atKey_put_other (ks_ne e)]
      exact h.get j y zd hj
theorem keyS : Keyed Tryd.prog 9 := Maps.string_keyed Tryd.underlying9
theorem keyOf_ks {s : ByteArray} (h : s.size ≤ 140737488351232) : keyOf Tryd.prog 9 (.string s) = some (ks s) := Go.WideMaps.keyOf_string_mk Tryd.underlying9 (by unfold maxLen; omega)
/-- The labels in memory. -/
def Lab (w : World) (mb n : Nat) (M : ByteArray → Option Int) : Prop := ∃ D, w.ownsMap Tryd.prog 9 intR mb n D ∧ SIs D M
theorem Lab.lt {w : World} {mb n : Nat} {M : ByteArray → Option Int} (h : Lab w mb n M) : mb < w.heap.size := by
  obtain ⟨D, h1, -⟩ := h
  exact h1.lt
theorem Lab.frm {S : Nat → Prop} {w w' : World} {mb n : Nat} {M : ByteArray → Option Int} (h : Lab w mb n M) (hf : Frm S w w') (h2 : ¬ S mb) : Lab w' mb n M := by
  have hl := h.lt
  obtain ⟨D, ⟨es, clock, q1, q2⟩, q3⟩ := h
  exact ⟨D, ⟨es, clock, by rw [hf.block mb hl h2]; exact q1, q2⟩, q3⟩
theorem Lab.below {w w' : World} {mb n : Nat} {M : ByteArray → Option Int} (h : Lab w mb n M) (hb : Below w.heap.size w w') : Lab w' mb n M := h.frm (S := fun _ => False) (Frm.ofBelow hb) id
theorem lab_new (w : World) : Lab (w.alloc (.map #[] 0)) w.heap.size 0 (fun _ => none) := ⟨_, World.ownsMap_made w _ _ _, sis_none⟩
theorem zeroI (w : World) : (zeroValue 3).run Tryd.prog w = .ok (.int .i64 0) w := by kernel_rfl
theorem undM : Tryd.prog.underlying 72 = some (.map 9 3) := by kernel_rfl
theorem wp_lookS {ops : Array Oper} {rest : List Oper} {o : Oper} {a : Act} {Q : Exit → Act → World → Prop} (w : World) (hg : o.guard = none) (m x : Operand) (hop : o.op = Op.lookup 72 m x true) {mb n : Nat} {M : ByteArray → Option Int} (h : Lab w mb n M) (hm : a.eval m = .map (some mb)) (s : ByteArray) (hs : s.size ≤ 140737488351232) (hx : a.eval x = .string s)
    (hK : ∀ y : Int, (∀ z, M s = some z → y = z) → wpList Tryd.prog ops Q rest (a.put o.dst (.tuple #[.int .i64 y, .bool (M s).isSome])) w) : wpList Tryd.prog ops Q (o :: rest) a w := by
  obtain ⟨D, h3, h4⟩ := h
  refine wpList_lookup_own_ok w hg m x _ hop _ _ keyS undM intR (zeroI w) (.lit (.int .i64 0)) [] rfl mb n D hm h3 _ (ks s) hx (keyOf_ks hs) ?_
  intro v ps hv
  obtain ⟨y, rfl, hy⟩ := intR_inv hv
  have hy1 : D.atKey (ks s) (.lit (.int .i64 0)) = .lit (.int .i64 y) := congrArg Prod.fst hy
  rw [h4.has s]
  refine hK y (fun z hz => ?_)
  rw [h4.get s z _ hz] at hy1
  simp only [DataW.lit.injEq, Lit.int.injEq, true_and] at hy1
  exact hy1.symm
theorem wp_layS {ops : Array Oper} {rest : List Oper} {o : Oper} {a : Act} {Q : Exit → Act → World → Prop} (w : World) (hg : o.guard = none) (m x v : Operand) (hop : o.op = Op.mapUpdate 72 m x v) {mb n : Nat} {M : ByteArray → Option Int} (h : Lab w mb n M) (hn : n < 9223372036854775807) (hm : a.eval m = .map (some mb)) (s : ByteArray) (hs : s.size ≤ 140737488351232) (hx : a.eval x = .string s) (y : Int) (hv : a.eval v = .int .i64 y)
    (hK : ∀ w', Lab w' mb (n + 1) (setS M s y) → w.grownBy w' (some mb) → wpList Tryd.prog ops Q rest (a.put o.dst undef) w') : wpList Tryd.prog ops Q (o :: rest) a w := by
  obtain ⟨D, h3, h4⟩ := h
  refine wpList_mapUpdate_own w hg m x v _ hop _ _ keyS undM intR mb n D hm h3 (by unfold maxLen; omega) _ _ (ks s) hx hv (keyOf_ks hs) (.lit (.int .i64 y)) [] rfl ?_
  intro w' q1 q2
  exact hK w' ⟨_, q1, h4.put h3.isMap s y⟩ q2
end Go.Proofs.YthcmeboepedelaaDoor
