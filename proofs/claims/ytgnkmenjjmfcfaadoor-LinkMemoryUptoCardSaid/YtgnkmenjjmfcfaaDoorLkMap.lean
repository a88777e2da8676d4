/-
  Letters under way, held by a map: what the map holds, by the letters' numbers.
-/
import Derived.Test.YtgnkmenjjmfcfaaDoorLkKit
import Derived.Maps.OwnSet
import Derived.Maps.RangeWalk
import Derived.Maps.Views
namespace Go.Proofs.YtgnkmenjjmfcfaaDoor
open Go.RowKit FerryCrc
open Go.Maps (Keyed)
set_option linter.unusedVariables false
set_option linter.unusedSimpArgs false
/-- A letter under way. -/
structure Lt where
  f : Int
  t : Int
  s : ByteArray
  sp : Bool
def Lt.cells (x : Lt) : List Value := [.int .i64 x.f, .int .i64 x.t, .string x.s, .bool x.sp]
def Lt.v (x : Lt) : Value := .agg x.cells.toArray
def Lt.d (x : Lt) : DataW Unit := .agg [.lit (.int .i64 x.f), .lit (.int .i64 x.t), .lit (.string x.s.data.toList), .lit (.bool x.sp)]
def zLt : Lt := ⟨0, 0, ⟨#[]⟩, false⟩
def letR (v : Value) : Option (DataW Unit × List MemPlace) :=
  match v with
  | .agg cs => match cs.toList with
    | [.int .i64 f, .int .i64 t, .string s, .bool b] => some ((Lt.mk f t s b).d, [])
    | _ => none
  | _ => none
theorem letR_mk (x : Lt) : letR x.v = some (x.d, []) := rfl
theorem letR_inv {v : Value} {y : DataW Unit × List MemPlace} (h : letR v = some y) : ∃ x : Lt, v = x.v ∧ y = (x.d, []) := by
  unfold letR at h
  split at h
  · rename_i cs
    obtain ⟨l⟩ := cs
    simp only at h
    split at h
    · rename_i f t s b
      exact ⟨⟨f, t, s, b⟩, rfl, (Option.some.inj h).symm⟩
    · cases h
  · cases h
theorem Lt.d_inj {x y : Lt} (h : x.d = y.d) : x = y := by
  obtain ⟨f, t, ⟨⟨l⟩⟩, b⟩ := x
  obtain ⟨f', t', ⟨⟨l'⟩⟩, b'⟩ := y
  simp only [Lt.d, DataW.agg.injEq, List.cons.injEq, DataW.lit.injEq, Lit.int.injEq, Lit.string.injEq, Lit.bool.injEq, and_true, true_and] at h
  obtain ⟨rfl, rfl, rfl, rfl⟩ := h
  rfl
/-- What a link holds: how many letters there have been, and those under way. -/
structure Lk where
  n : Nat
  M : Int → Option Lt
def kl (k : Int) : Lit := .int .i64 k
theorem kl_key (k : Int) : WideAt.IsKeyLit (kl k) := trivial
theorem kl_ne {k k' : Int} (h : k' ≠ k) : kl k' ≠ kl k := fun e => h (by injection e)
theorem kl_same (k k' : Int) : (kl k).sameKey (kl k') = decide (k = k') := by simp [kl, Lit.sameKey]
structure MIs (D : DataW Unit) (M : Int → Option Lt) : Prop where
  has : ∀ k : Int, Maps.has D (kl k) = (M k).isSome
  get : ∀ (k : Int) (x : Lt) (zd : DataW Unit), M k = some x → D.atKey (kl k) zd = x.d
theorem mis_none : MIs (.map [] : DataW Unit) (fun _ => none) := ⟨fun _ => rfl, fun _ _ _ h => by cases h⟩
def setM (M : Int → Option Lt) (k : Int) (o : Option Lt) : Int → Option Lt := fun j => if j = k then o else M j
theorem setM_same (M : Int → Option Lt) (k : Int) (o : Option Lt) : setM M k o k = o := if_pos rfl
theorem setM_ne (M : Int → Option Lt) {k j : Int} (o : Option Lt) (h : j ≠ k) : setM M k o j = M j := if_neg h
theorem MIs.put {D : DataW Unit} {M : Int → Option Lt} (h : MIs D M) (hD : Maps.IsMap D) (k : Int) (x : Lt) : MIs (D.put (kl k) x.d) (setM M k (some x)) := by
  refine ⟨fun j => ?_, fun j y zd hj => ?_⟩
  · by_cases e : j = k
    · subst e
      rw [Maps.has_put_same hD (kl_key _), setM_same]
      rfl
    · rw [Maps.has_put_other (kl_ne e), setM_ne _ _ e]
      exact h.has j
  · by_cases e : j = k
    · subst e
      rw [setM_same] at hj
      obtain rfl := Option.some.inj hj
      exact Maps.atKey_put_same hD (kl_key _) _ _
    · rw [setM_ne _ _ e] at hj
      rw [Maps.atKey_put_other (kl_ne e)]
      exact h.get j y zd hj
theorem MIs.del {D : DataW Unit} {M : Int → Option Lt} (h : MIs D M) (k : Int) : MIs (D.del (kl k)) (setM M k none) := by
  refine ⟨fun j => ?_, fun j y zd hj => ?_⟩
  · by_cases e : j = k
    · subst e
      rw [Maps.has_del_same, setM_same]
      rfl
    · rw [Maps.has_del_other (kl_ne e), setM_ne _ _ e]
      exact h.has j
  · by_cases e : j = k
    · subst e
      rw [setM_same] at hj
      cases hj
    · rw [setM_ne _ _ e] at hj
      rw [Maps.atKey_del_other (kl_ne e)]
      exact h.get j y zd hj
theorem keyI : Keyed Tryd.prog 3 := Maps.int_keyed Tryd.underlying3
theorem wf_i64 {k : Int} (h1 : -9223372036854775808 ≤ k) (h2 : k ≤ 9223372036854775807) : (Lit.int .i64 k).wf = true := by
  have e1 : IntKind.min .i64 = -9223372036854775808 := by decide
  have e2 : IntKind.max .i64 = 9223372036854775807 := by decide
  show (decide (IntKind.min .i64 ≤ k) && decide (k ≤ IntKind.max .i64)) = true
  rw [e1, e2, decide_eq_true h1, decide_eq_true h2]
  rfl
theorem keyOf_kl {k : Int} (h1 : -9223372036854775808 ≤ k) (h2 : k ≤ 9223372036854775807) : keyOf Tryd.prog 3 (.int .i64 k) = some (kl k) :=
  Maps.keyOf_int_mk Tryd.underlying3 (wf_i64 h1 h2)
/-- A link in memory: its block, its map's block. -/
structure LAt (w : World) (lb mb : Nat) (L : Lk) : Prop where
  bk : Bk w lb [.int .i64 (L.n : Int), .map (some mb)] 61
  own : ∃ D, w.ownsMap Tryd.prog 3 letR mb L.n D ∧ MIs D L.M
  ok : ∀ k x, L.M k = some x → 1 ≤ k ∧ k ≤ (L.n : Int)
  sz : ∀ k x, L.M k = some x → x.s.size ≤ 4096
theorem LAt.lb_lt {w : World} {lb mb : Nat} {L : Lk} (h : LAt w lb mb L) : lb < w.heap.size := h.bk.lt
theorem LAt.mb_lt {w : World} {lb mb : Nat} {L : Lk} (h : LAt w lb mb L) : mb < w.heap.size := by
  obtain ⟨D, h1, -⟩ := h.own
  exact h1.lt
theorem LAt.ne {w : World} {lb mb : Nat} {L : Lk} (h : LAt w lb mb L) : mb ≠ lb := by
  obtain ⟨D, ⟨es, clock, h1, -⟩, -⟩ := h.own
  intro e
  have h2 := h.bk
  unfold Bk at h2
  rw [e, h2] at h1
  cases h1
theorem LAt.frm {S : Nat → Prop} {w w' : World} {lb mb : Nat} {L : Lk} (h : LAt w lb mb L) (hf : Frm S w w') (h1 : ¬ S lb) (h2 : ¬ S mb) : LAt w' lb mb L := by
  refine ⟨?_, ?_, h.ok, h.sz⟩
  · have := h.bk
    unfold Bk at *
    rw [hf.block lb h.lb_lt h1]
    exact this
  · obtain ⟨D, ⟨es, clock, q1, q2⟩, q3⟩ := h.own
    exact ⟨D, ⟨es, clock, by rw [hf.block mb h.mb_lt h2]; exact q1, q2⟩, q3⟩
theorem LAt.below {w w' : World} {lb mb : Nat} {L : Lk} (h : LAt w lb mb L) (hb : Below w.heap.size w w') : LAt w' lb mb L := h.frm (S := fun _ => False) ⟨hb.os, hb.tape, hb.output, hb.size, fun k hk _ => hb.block k hk⟩ id id
/-- What a call on a link may write to. -/
def TwoB (lb mb : Nat) (k : Nat) : Prop := k = lb ∨ k = mb
end Go.Proofs.YtgnkmenjjmfcfaaDoor
