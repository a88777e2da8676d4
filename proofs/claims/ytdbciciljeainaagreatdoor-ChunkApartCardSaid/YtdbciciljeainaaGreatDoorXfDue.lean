/-
  The program's Due.
-/
import Derived.Test.YtdbciciljeainaaGreatDoorXfPieces
namespace Go.Proofs.YtdbciciljeainaaGreatDoor
open Go.RowKit FerryCrc
set_option linter.unusedVariables false
set_option linter.unusedSimpArgs false

theorem fl_snoc {α : Type} (f : α → List Value) (l : List α) (x : α) : (l ++ [x]).flatMap f = l.flatMap f ++ f x := by simp
/-- append of one record that lies in a block of its own, to a list of the call's own. -/
theorem append_l {α : Type} {f : α → List Value} {sz byt : Nat} (hf : ∀ x, (f x).length = sz) (h0 : 0 < sz) (z : α) {t e : TypeId} (ht : Tryz.prog.underlying t = some (.slice e)) (hinfo : (Tryz.prog.info? e).map (fun i => (i.size, i.bytes, i.zero.map (·.cells))) = some (sz, byt, some (f z).toArray))
    {w : World} {ops : Array Oper} {rest : List Oper} {o : Oper} {act : Act} {Q : Exit → Act → World → Prop} (hgd : o.guard = none) (s y : Operand)
    (ho : o.op = .call { callee := .builtin .append, args := #[s, y], argTypes := #[t, t] })
    (base : Nat) (v : Value) (xs : List α) (hs : act.eval s = v) (hown : LOwn f sz e w base v xs)
    (g c : Nat) (x : α) (hx : act.eval y = .slice (some ⟨g, 0, none⟩) 1 c) (one : ∀ u ∈ f x, u.oneCell' = true) (hc : ∀ j u, (f x)[j]? = some u → w.cell? ⟨g, j, none⟩ = some u)
    (h63 : xs.length < 4294967296) (hby : (xs.length + 1) * byt ≤ 140737488355328) (hbase : base ≤ w.heap.size)
    (h : ∀ v' w', LOwn f sz e w' base v' (xs ++ [x]) → w.grownBy w' v.ownBlock → wpList Tryz.prog ops Q rest (act.put o.dst v') w') : wpList Tryz.prog ops Q (o :: rest) act w := by
  obtain ⟨i, zz, hi, hz, hsz, hb, hzc⟩ := info_open hinfo
  refine wpList_append_own w hgd s y t ho base e i zz sz byt ht hi hz hsz hb (by rw [hzc]; simp [hf]) h0 v xs.length (xs.flatMap f) hs hown ⟨g, 0, none⟩ 1 c (f x) hx (by rw [hf]; simp) ?_ one (by unfold maxLen; omega) hby hbase ?_
  · intro j u hu
    rw [add_none, Nat.zero_add]
    exact hc j u hu
  · intro v' w' h1 h2 h3
    refine h v' w' ?_ h2
    unfold LOwn
    rw [List.length_append, fl_snoc]
    exact h1
theorem nt_one (x : Nt) : ∀ u ∈ x.cells, u.oneCell' = true := by
  intro u hu
  simp only [Nt.cells, List.mem_cons, List.not_mem_nil, or_false] at hu
  rcases hu with rfl | rfl | rfl | rfl | rfl | rfl | rfl | rfl | rfl | rfl <;> rfl
/-- The notes whose mark is not set. -/
def dueN (N : List Nt) (F : List Bool) : List Nt := ((N.zip F).filter (fun p => !p.2)).map (·.1)
theorem dueN_len (N : List Nt) (F : List Bool) : (dueN N F).length ≤ N.length := by
  unfold dueN
  rw [List.length_map]
  refine Nat.le_trans (List.length_filter_le _ _) ?_
  rw [List.length_zip]
  exact Nat.min_le_left _ _
theorem dueN_step {N : List Nt} {F : List Bool} {k : Nat} {x : Nt} {y : Bool} (hx : N[k]? = some x) (hy : F[k]? = some y) : dueN (N.take (k + 1)) (F.take (k + 1)) = dueN (N.take k) (F.take k) ++ (if y then [] else [x]) := by
  have h1 := (List.getElem?_eq_some_iff.1 hx).1
  have h2 := (List.getElem?_eq_some_iff.1 hy).1
  unfold dueN
  rw [List.take_add_one, List.take_add_one, hx, hy]
  rw [show (some x).toList = [x] from rfl, show (some y).toList = [y] from rfl]
  rw [List.zip_append (by rw [List.length_take, List.length_take]; omega), List.filter_append, List.map_append]
  cases y <;> rfl
def dueL (s : Sd) (F : List Bool) : List Nt := dueN (pieL s F.length) F

end Go.Proofs.YtdbciciljeainaaGreatDoor
