/-
  Lists of records as memory holds them; no program in it.
-/
import Derived.Test.YthcmeboepedelaaDoorRw
import Derived.Deep.AppendLies
import Derived.OwnWalk
namespace Go.Proofs.YthcmeboepedelaaDoor
open Go.RowKit
set_option linter.unusedVariables false
set_option linter.unusedSimpArgs false

/-! The cells of a list of records, sz cells each. -/
theorem fl_len {α : Type} {f : α → List Value} {sz : Nat} (h : ∀ x, (f x).length = sz) : ∀ l : List α, (l.flatMap f).length = l.length * sz
  | [] => by simp
  | x :: l => by
    rw [List.flatMap_cons, List.length_append, fl_len h l, h x, List.length_cons, Nat.add_mul]
    omega
theorem fl_get {α : Type} {f : α → List Value} {sz : Nat} (h : ∀ x, (f x).length = sz) : ∀ {l : List α} {k : Nat} {x : α} (j : Nat), l[k]? = some x → j < sz → (l.flatMap f)[k * sz + j]? = (f x)[j]? := by
  intro l
  induction l with
  | nil => intro k x j hx; simp at hx
  | cons y l ih =>
    intro k x j hx hj
    have hy := h y
    rw [List.flatMap_cons]
    cases k with
    | zero =>
      simp at hx
      subst hx
      rw [List.getElem?_append_left (by omega), Nat.zero_mul, Nat.zero_add]
    | succ k =>
      rw [List.getElem?_append_right (by rw [Nat.add_mul]; omega), show (k + 1) * sz + j - (f y).length = k * sz + j by rw [hy, Nat.add_mul]; omega]
      exact ih j (by simpa using hx) hj
theorem fl_two {α : Type} {f : α → List Value} (h : ∀ x, (f x).length = 2) : ∀ {l : List α} {k : Nat} {x y : α} {u v : Value}, l[k]? = some x → f y = [u, v] → ((l.flatMap f).set (k * 2) u).set (k * 2 + 1) v = (l.set k y).flatMap f := by
  intro l
  induction l with
  | nil => intro k x y u v hx; simp at hx
  | cons z l ih =>
    intro k x y u v hx hf
    have hz := h z
    cases k with
    | zero =>
      rw [List.flatMap_cons, List.set_cons_zero, List.flatMap_cons, hf]
      match hq : f z, hz with
      | [p, q], _ => rfl
    | succ k =>
      have := ih (k := k) (y := y) (by simpa using hx) hf
      rw [List.flatMap_cons, List.set_cons_succ, List.flatMap_cons, ← this]
      rw [List.set_append_right _ _ (by omega), List.set_append_right _ _ (by omega), hz, show (k + 1) * 2 - 2 = k * 2 by omega, show (k + 1) * 2 + 1 - 2 = k * 2 + 1 by omega]
/-- The records that a slice shows. -/
structure Rcs {α : Type} (f : α → List Value) (sz : Nat) (w : World) (a : Option Addr) (len cap : Nat) (l : List α) : Prop where
  size : l.length = len
  row : Row w a len cap sz (l.flatMap f)
theorem Rcs.below {α : Type} {f : α → List Value} {sz : Nat} {w w' : World} {a : Option Addr} {len cap : Nat} {l : List α} (h : Rcs f sz w a len cap l) (hb : Below w.heap.size w w') : Rcs f sz w' a len cap l := ⟨h.size, h.row.below hb⟩
theorem Rcs.at {α : Type} {f : α → List Value} {sz : Nat} (hf : ∀ x, (f x).length = sz) (h0 : 0 < sz) {w : World} {a : Option Addr} {len cap : Nat} {l : List α} (h : Rcs f sz w a len cap l) {k : Nat} {x : α} (hx : l[k]? = some x) :
    ∃ b off, a = some ⟨b, off, none⟩ ∧ ∀ j v, (f x)[j]? = some v → w.cell? ⟨b, off + k * sz + j, none⟩ = some v := by
  have hfx := hf x
  have h1 := fl_get hf (l := l) (k := k) (x := x) 0 hx h0
  obtain ⟨v0, hv0⟩ : ∃ v, (f x)[0]? = some v := ⟨_, List.getElem?_eq_getElem (by omega)⟩
  obtain ⟨b, off, e, _⟩ := h.row.cell _ v0 (h1.trans hv0)
  refine ⟨b, off, e, fun j v hv => ?_⟩
  have hj : j < sz := by
    have := (List.getElem?_eq_some_iff.1 hv).1
    omega
  obtain ⟨b', off', e', hc⟩ := h.row.cell _ v ((fl_get hf j hx hj).trans hv)
  rw [e] at e'
  simp only [Option.some.injEq, Addr.mk.injEq, and_true] at e'
  obtain ⟨rfl, rfl⟩ := e'
  rw [Nat.add_assoc]
  exact hc

/-- What make lays is a list of zero records. -/
theorem made_flat {α : Type} {f : α → List Value} {sz : Nat} (hf : ∀ x, (f x).length = sz) (h0 : 0 < sz) {z : Array Value} (x : α) (hz : z = (f x).toArray) (n : Nat) : (madeCells z (n * sz)).toList = (List.replicate n x).flatMap f := by
  subst hz
  have hx := hf x
  refine List.ext_getElem? fun j => ?_
  by_cases hj : j < n * sz
  · have hk : j / sz < n := (Nat.div_lt_iff_lt_mul h0).2 hj
    have hm : j % sz < sz := Nat.mod_lt _ h0
    have h1 := fl_get hf (l := List.replicate n x) (k := j / sz) (x := x) (j % sz) (by rw [List.getElem?_replicate, if_pos hk]) hm
    rw [Nat.div_add_mod' j sz] at h1
    have hl : j % sz < (f x).length := by omega
    have h2 : (f x)[j % sz]? = some (f x)[j % sz] := List.getElem?_eq_getElem hl
    rw [h1, h2]
    simp [madeCells, hj, hx]
    rw [h2]
    rfl
  · rw [List.getElem?_eq_none (by simp [madeCells]; omega), List.getElem?_eq_none (by rw [fl_len hf]; simp; omega)]
end Go.Proofs.YthcmeboepedelaaDoor
