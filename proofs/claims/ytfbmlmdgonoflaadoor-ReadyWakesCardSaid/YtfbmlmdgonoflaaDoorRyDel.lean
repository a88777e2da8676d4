/-
  slices.Index, Contains, IndexFunc and DeleteFunc at numbers, as ready calls them.
-/
import Derived.Test.YtfbmlmdgonoflaaDoorRyOwn
import Derived.Lib.SliceRun
import Derived.Laws.OwnMore
namespace Go.Proofs.YtfbmlmdgonoflaaDoor
open Go.RowKit
set_option linter.unusedVariables false
set_option linter.unusedSimpArgs false

theorem grownBy_trans {w w1 w2 : World} {row : Option Nat} (h : w.grownBy w1 row) (k : w1.grownBy w2 row) : w.grownBy w2 row :=
  ⟨k.os.trans h.os, k.tape.trans h.tape, k.output.trans h.output, Nat.le_trans h.size k.size, fun i hi hne => (k.block i (Nat.lt_of_lt_of_le hi h.size) hne).trans (h.block i hi hne)⟩
theorem grownBy_refl (w : World) (row : Option Nat) : w.grownBy w row := ⟨rfl, rfl, rfl, Nat.le_refl _, fun _ _ _ => rfl⟩
theorem grownBy_setCells (g : Nat) : ∀ (vs : List Value) (off : Nat) (w : World), w.grownBy (w.setCells g off vs) (some g)
  | [], off, w => grownBy_refl _ _
  | v :: vs, off, w => grownBy_trans (w1 := w.setCell ⟨g, off, none⟩ v) ⟨rfl, rfl, rfl, by simp, fun k _ hk => heap_setCell_other w ⟨g, off, none⟩ k v (fun e => hk (by simp [e]))⟩ (grownBy_setCells g vs (off + 1) _)
theorem fl_ci (l : List Int) : l.flatMap ci = l.map (Value.int .i64) := by
  induction l with
  | nil => rfl
  | cons x l ih => rw [List.flatMap_cons, ih]; rfl
theorem iown_stored {w : World} {base g cap : Nat} {ys : List Int} (h : IOwn w base (.slice (some ⟨g, 0, none⟩) ys.length cap) ys) (j : Nat) (y : Int) :
    IOwn (w.setCell ⟨g, j, none⟩ (.int .i64 y)) base (.slice (some ⟨g, 0, none⟩) ys.length cap) (ys.set j y) ∧ w.grownBy (w.setCell ⟨g, j, none⟩ (.int .i64 y)) (some g) := by
  obtain ⟨h1, h2⟩ := World.ownsRow.stored h j (.int .i64 y)
  refine ⟨?_, h2⟩
  unfold IOwn
  rw [List.length_set, fl_ci, List.map_set, ← fl_ci]
  exact h1
theorem iown_front {w : World} {base g n cap : Nat} {ys : List Int} (h : IOwn w base (.slice (some ⟨g, 0, none⟩) n cap) ys) {i : Nat} (hi : i ≤ ys.length) : IOwn w base (.slice (some ⟨g, 0, none⟩) i cap) (ys.take i) := by
  rcases h.2 with ⟨h', _⟩ | ⟨g', cap', cur, h', hb, hg, hnc, hcm, hcs, htake⟩
  · simp at h'
  · simp only [Value.slice.injEq, Option.some.injEq, Addr.mk.injEq, and_true, true_and] at h'
    obtain ⟨rfl, rfl, rfl⟩ := h'
    have hl : (ys.take i).length = i := by rw [List.length_take]; omega
    refine ⟨by rw [hl, fl_ci, List.length_map, hl]; omega, .inr ⟨g, cap, cur, by rw [hl], hb, hg, by omega, hcm, hcs, ?_⟩⟩
    rw [hl, fl_ci, List.map_take, ← fl_ci, ← htake, List.take_take]
    congr 1
    omega
theorem iown_setCells {base g m c : Nat} {l : List Int} : ∀ (vs : List Value) (off : Nat) (w : World), IOwn w base (.slice (some ⟨g, 0, none⟩) m c) l → l.length = m → m ≤ off → IOwn (w.setCells g off vs) base (.slice (some ⟨g, 0, none⟩) m c) l
  | [], off, w, h, _, _ => h
  | v :: vs, off, w, h, hl, ho => by
    subst hl
    have h2 := (World.ownsRow.stored h off v).1
    rw [List.set_eq_of_length_le (by rw [fl_ci, List.length_map]; exact ho)] at h2
    exact iown_setCells vs (off + 1) (w.setCell ⟨g, off, none⟩ v) h2 rfl (by omega)
theorem iown_at {w : World} {base g n cap : Nat} {ys : List Int} (h : IOwn w base (.slice (some ⟨g, 0, none⟩) n cap) ys) {j : Nat} {y : Int} (hy : ys[j]? = some y) : w.cell? ⟨g, j, none⟩ = some (.int .i64 y) := by
  have hj := (List.getElem?_eq_some_iff.1 hy).1
  obtain ⟨a, c, e, hr⟩ := iown_is h
  simp only [Value.slice.injEq] at e
  obtain ⟨rfl, _, _⟩ := e
  obtain ⟨b, off, e', hc⟩ := hr.at ci1 (by decide) hy
  simp only [Option.some.injEq, Addr.mk.injEq, and_true] at e'
  obtain ⟨rfl, rfl⟩ := e'
  have := hc 0 _ rfl
  simpa using this
theorem out_no {r : List Int} {p : Int} (h : p ∉ r) : outOf r p = r := List.filter_eq_self.2 fun x hx => by simp; rintro rfl; exact h hx
theorem out_snoc (r : List Int) (p y : Int) : outOf (r ++ [y]) p = outOf r p ++ (if y == p then [] else [y]) := by
  unfold outOf
  rw [List.filter_append]
  by_cases h : y = p
  · simp [h]
  · simp [h]

theorem wpList_clear {P : Program} {w w' : World} {ops : Array Oper} {rest : List Oper} {o : Oper} {a : Act} {Q : Exit → Act → World → Prop} (hgd : o.guard = none) (x : Operand) (t : TypeId)
    (ho : o.op = .call { callee := .builtin .clear, args := #[x], argTypes := #[t] }) (v : Value) (hx : a.eval x = v) (hrun : (Builtin.clear_ #[t] o.type #[v]).run P w = .ok (.tuple #[]) w')
    (h : wpList P ops Q rest (a.put o.dst (.tuple #[])) w') : wpList P ops Q (o :: rest) a w := by
  refine wpList_plain hgd fun K hK => ?_
  unfold Oper.wp
  simp [execOp, ho, resolve, invoke, builtin, hx, hrun, Result.andThen]
  exact hK _ _ h
theorem zeroInt (w : World) : (zeroValue 3).run Tryd.prog w = .ok (.int .i64 0) w := by kernel_rfl

end Go.Proofs.YtfbmlmdgonoflaaDoor
