/-
  append of a letter to the document's list, as one step of a drawn region.
-/
import Derived.Test.YtgnkmenjjmfcfaaDoorLkR
namespace Go.Proofs.YtgnkmenjjmfcfaaDoor
open Go.RowKit FerryCrc Q
set_option linter.unusedVariables false
set_option linter.unusedSimpArgs false
theorem app_run {P : Program} (w : World) (t ot : TypeId)
    (base : Nat) (e : TypeId) (i : TypeInfo) (z : Value) (size bytes : Nat) (ht : P.underlying t = some (.slice e)) (hi : P.info? e = some i) (hz : i.zero = some z)
    (hsize : i.size = size) (hby : i.bytes = bytes) (hzs : z.cells.size = size) (hsz : 0 < size)
    (v : Value) (n : Nat) (xs : List Value) (hown : w.ownsRow base e size v n xs)
    (ad : Addr) (m c : Nat) (news : List Value) (hl : news.length = m * size) (hnews : ∀ j u, news[j]? = some u → w.cell? (ad.add j) = some u) (h1 : ∀ u ∈ news, u.oneCell' = true)
    (h63 : n + m ≤ maxLen) (hbytes : (n + m) * bytes ≤ 140737488355328) (hbase : base ≤ w.heap.size) (hm : 0 < m) :
    ∃ g' c' w', (Builtin.append_ #[t, t] ot #[v, .slice (some ad) m c]).run P w = .ok (.slice (some ⟨g', 0, none⟩) (n + m) c') w' ∧ w'.ownsRow base e size (.slice (some ⟨g', 0, none⟩) (n + m) c') (n + m) (xs ++ news) ∧ w.grownBy w' v.ownBlock ∧ (v.ownBlock = some g' ∨ w.heap.size ≤ g') := by
  obtain ⟨v', w', hr, h2, h3, h4⟩ := run_append_own (P := P) w base t ot e i z size bytes ht hi hz hsize hby hzs hsz v n xs hown ad m c news hl hnews h1 h63 hbytes hbase
  have hat : ∀ g', v'.ownBlock = some g' → v.ownBlock = some g' ∨ w.heap.size ≤ g' := by
    intro g' hg'
    rcases hown.2 with ⟨e1, e2⟩ | ⟨g, cap, cur, e1, hg, hh, hnc, hcm, hcs, htk⟩
    · obtain ⟨v2, w2, hr2, k2, _⟩ := run_append_own (P := P) w w.heap.size t ot e i z size bytes ht hi hz hsize hby hzs hsz v n xs ⟨hown.1, .inl ⟨e1, e2⟩⟩ ad m c news hl hnews h1 h63 hbytes (Nat.le_refl _)
      rw [hr2] at hr
      injection hr with e3 e4
      subst e3
      exact .inr (World.ownsRow.lt k2 g' hg').1
    · subst e1
      by_cases hrm : n + m ≤ cap
      · have hrun := run_append_room_cells (P := P) w t ot e i ht hi g 0 n cap ad m c news (by rw [hsize]; exact hl) hnews h1 hrm (fun j hj => by
          rw [cell_of_row w g _ cur _ _ hh]
          have : 0 + n * i.size + j < cur.size := by
            rw [hcs, hsize]
            have := Nat.mul_le_mul_right size hrm
            rw [Nat.add_mul] at this
            omega
          rw [Array.getElem?_eq_getElem this]
          rfl) (fun j hj => World.ownsRow.frozenAt hown _)
        rw [hrun] at hr
        injection hr with e3 _
        left
        rw [← e3] at hg'
        exact hg'
      · obtain ⟨v2, w2, hr2, k2, _⟩ := run_append_arg_grows (P := P) w t ot e i z size bytes ht hi hz hsize hby hzs hsz ⟨g, 0, none⟩ n cap xs hown.1 (fun j u hj => by
          have hj' := (List.getElem?_eq_some_iff.1 hj).1
          rw [hown.1] at hj'
          rw [add_lit', Nat.zero_add, World.ownsRow.cellAt hown j hj']
          exact hj) ad m c news hl hnews (by omega) h63 hbytes
        rw [hr2] at hr
        injection hr with e3 _
        subst e3
        exact .inr (World.ownsRow.lt k2 g' hg').1
  rcases h2.2 with ⟨_, e2⟩ | ⟨g', cap, cur, e1, _⟩
  · omega
  · subst e1
    exact ⟨g', cap, w', hr, h2, h3, hat g' rfl⟩

theorem step_m5 {w : World} {ops : Array Oper} {o : Oper} {act : Act} {K : Act → World → Prop} {Q : Exit → Act → World → Prop} {EE : Prop} (hgd : o.guard = none) (s x : Operand)
    (ho : o.op = .call { callee := .builtin .append, args := #[s, x], argTypes := #[26, 26] })
    (base : Nat) (v : Value) (l : List Md) (hs : act.eval s = v) (hown : MOwn w base v l)
    (g c : Nat) (y : Md) (hx : act.eval x = .slice (some ⟨g, 0, none⟩) 1 c) (hB : Bk w g (m5 y) 83)
    (hby : (l.length + 1) * 40 ≤ 140737488355328) (hbase : base ≤ w.heap.size)
    (h : ∀ g' c' w', MOwn w' base (.slice (some ⟨g', 0, none⟩) (l.length + 1) c') (l ++ [y]) → w.grownBy w' v.ownBlock → (v.ownBlock = some g' ∨ w.heap.size ≤ g') → K (act.put o.dst (.slice (some ⟨g', 0, none⟩) (l.length + 1) c')) w') :
    if Region.wanted o (yielded ops act.tmps) = true then Oper.wp Tryd.prog o act w K Q else EE := by
  have hw : Region.wanted o (yielded ops act.tmps) = true := by simp [Region.wanted, hgd]
  rw [if_pos hw]
  obtain ⟨i, zz, hi, hz, hsz, hb, hzc⟩ := info_open infoM
  obtain ⟨g', c', w', hr, k1, k2, k3⟩ := app_run (P := Tryd.prog) w 26 o.type base 83 i zz 5 40 Tryd.underlying26 hi hz hsz hb (by rw [hzc]; rfl) (by decide) v l.length (l.flatMap m5) hown ⟨g, 0, none⟩ 1 c (m5 y) rfl (fun j u hu => by rw [add_lit', Nat.zero_add]; exact hB.cell j hu) (fun u hu => m5_one [y] u (by simpa using hu)) (by unfold maxLen; omega) hby hbase (by decide)
  unfold Oper.wp execOp
  simp only [ho, resolve, invoke, builtin, Sem.run_bind, Sem.run_pure, Result.andThen_ok, List.map_toArray, List.map_cons, List.map_nil, hs, hx, hr]
  refine h g' c' w' ?_ k2 k3
  unfold MOwn LOwn
  rw [List.length_append, List.flatMap_append]
  simpa using k1
end Go.Proofs.YtgnkmenjjmfcfaaDoor
