/-
  append to a row of one's own, and where the new row lies.
-/
import Derived.Test.YtbekdbgnpcbklaaDoorPaPh
import Derived.Deep.Cut
namespace Go.Proofs.YtbekdbgnpcbklaaDoor
open Go.RowKit
set_option linter.unusedVariables false
set_option linter.unusedSimpArgs false

theorem append_at {P : Program} (w : World) {ops : Array Oper} {rest : List Oper} {o : Oper} {a : Act} {Q : Exit → Act → World → Prop} (hgd : o.guard = none) (s x : Operand) (t : TypeId)
    (ho : o.op = .call { callee := .builtin .append, args := #[s, x], argTypes := #[t, t] })
    (base : Nat) (e : TypeId) (i : TypeInfo) (z : Value) (size bytes : Nat) (ht : P.underlying t = some (.slice e)) (hi : P.info? e = some i) (hz : i.zero = some z)
    (hsize : i.size = size) (hby : i.bytes = bytes) (hzs : z.cells.size = size) (hsz : 0 < size)
    (v : Value) (n : Nat) (xs : List Value) (hs : a.eval s = v) (hown : w.ownsRow base e size v n xs)
    (ad : Addr) (m c : Nat) (news : List Value) (hx : a.eval x = .slice (some ad) m c) (hl : news.length = m * size) (hnews : ∀ j u, news[j]? = some u → w.cell? (ad.add j) = some u) (h1 : ∀ u ∈ news, u.oneCell' = true)
    (h63 : n + m ≤ maxLen) (hbytes : (n + m) * bytes ≤ 140737488355328) (hbase : base ≤ w.heap.size) (hm : 0 < m)
    (h : ∀ g' c' w', w'.ownsRow base e size (.slice (some ⟨g', 0, none⟩) (n + m) c') (n + m) (xs ++ news) → w.grownBy w' v.ownBlock → (v.ownBlock = some g' ∨ w.heap.size ≤ g') → wpList P ops Q rest (a.put o.dst (.slice (some ⟨g', 0, none⟩) (n + m) c')) w') : wpList P ops Q (o :: rest) a w := by
  refine wpList_plain hgd fun K hK => ?_
  obtain ⟨v', w', hr, h2, h3, h4⟩ := run_append_own (P := P) w base t o.type e i z size bytes ht hi hz hsize hby hzs hsz v n xs hown ad m c news hl hnews h1 h63 hbytes hbase
  have hat : ∀ g', v'.ownBlock = some g' → v.ownBlock = some g' ∨ w.heap.size ≤ g' := by
    intro g' hg'
    rcases hown.2 with ⟨e1, e2⟩ | ⟨g, cap, cur, e1, hg, hh, hnc, hcm, hcs, htk⟩
    · obtain ⟨v2, w2, hr2, k2, _⟩ := run_append_own (P := P) w w.heap.size t o.type e i z size bytes ht hi hz hsize hby hzs hsz v n xs ⟨hown.1, .inl ⟨e1, e2⟩⟩ ad m c news hl hnews h1 h63 hbytes (Nat.le_refl _)
      rw [hr2] at hr
      injection hr with e3 e4
      subst e3
      exact .inr (World.ownsRow.lt k2 g' hg').1
    · subst e1
      by_cases hrm : n + m ≤ cap
      · have hrun := run_append_room_cells (P := P) w t o.type e i ht hi g 0 n cap ad m c news (by rw [hsize]; exact hl) hnews h1 hrm (fun j hj => by
          rw [cell_of_row w g _ cur _ _ hh]
          have : 0 + n * i.size + j < cur.size := by
            rw [hcs, hsize]
            have := Nat.mul_le_mul_right size hrm
            rw [Nat.add_mul] at this
            omega
          rw [Array.getElem?_eq_getElem this]
          rfl) (fun j hj => World.ownsRow.frozenAt hown _)
        rw [hrun] at hr
        injection hr with e3 _
        left
        rw [← e3] at hg'
        exact hg'
      · obtain ⟨v2, w2, hr2, k2, _⟩ := run_append_arg_grows (P := P) w t o.type e i z size bytes ht hi hz hsize hby hzs hsz ⟨g, 0, none⟩ n cap xs hown.1 (fun j u hj => by
          have hj' := (List.getElem?_eq_some_iff.1 hj).1
          rw [hown.1] at hj'
          rw [add_lit', Nat.zero_add, World.ownsRow.cellAt hown j hj']
          exact hj) ad m c news hl hnews (by omega) h63 hbytes
        rw [hr2] at hr
        injection hr with e3 _
        subst e3
        exact .inr (World.ownsRow.lt k2 g' hg').1
  rcases h2.2 with ⟨_, e2⟩ | ⟨g', cap, cur, e1, _⟩
  · omega
  · subst e1
    unfold Oper.wp execOp
    simp only [ho, resolve, invoke, builtin, Sem.run_bind, Sem.run_pure, Result.andThen_ok, List.map_toArray, List.map_cons, List.map_nil, hs, hx, hr]
    exact hK _ _ (h g' cap w' h2 h3 (hat g' rfl))
end Go.Proofs.YtbekdbgnpcbklaaDoor
