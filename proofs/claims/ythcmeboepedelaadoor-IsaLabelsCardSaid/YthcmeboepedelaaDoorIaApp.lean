/-
  append to lists of one's own; no program in it but its types.
-/
import Derived.Test.YthcmeboepedelaaDoorIaBase
import Derived.Laws.CopyOwn
import Derived.Laws.CopyRow
namespace Go.Proofs.YthcmeboepedelaaDoor
open Go.RowKit FerryCrc
set_option linter.unusedVariables false
set_option linter.unusedSimpArgs false

theorem append_at {P : Program} (w : World) {ops : Array Oper} {rest : List Oper} {o : Oper} {a : Act} {Q : Exit → Act → World → Prop} (hgd : o.guard = none) (s x : Operand) (t : TypeId)
    (ho : o.op = .call { callee := .builtin .append, args := #[s, x], argTypes := #[t, t] })
    (base : Nat) (e : TypeId) (i : TypeInfo) (z : Value) (size bytes : Nat) (ht : P.underlying t = some (.slice e)) (hi : P.info? e = some i) (hz : i.zero = some z)
    (hsize : i.size = size) (hby : i.bytes = bytes) (hzs : z.cells.size = size) (hsz : 0 < size)
    (v : Value) (n : Nat) (xs : List Value) (hs : a.eval s = v) (hown : w.ownsRow base e size v n xs)
    (ad : Addr) (m c : Nat) (news : List Value) (hx : a.eval x = .slice (some ad) m c) (hl : news.length = m * size) (hnews : ∀ j u, news[j]? = some u → w.cell? (ad.add j) = some u) (h1 : ∀ u ∈ news, u.oneCell' = true)
    (h63 : n + m ≤ maxLen) (hbytes : (n + m) * bytes ≤ 140737488355328) (hbase : base ≤ w.heap.size) (hm : 0 < m)
    (h : ∀ g' c' w', w'.ownsRow base e size (.slice (some ⟨g', 0, none⟩) (n + m) c') (n + m) (xs ++ news) → w.grownBy w' v.ownBlock → (v.ownBlock = some g' ∨ w.heap.size ≤ g') → wpList P ops Q rest (a.put o.dst (.slice (some ⟨g', 0, none⟩) (n + m) c')) w') : wpList P ops Q (o :: rest) a w := by
  refine wpList_plain hgd fun K hK => ?_
  obtain ⟨v', w', hr, h2, h3, h4⟩ := run_append_own (P := P) w base t o.type e i z size bytes ht hi hz hsize hby hzs hsz v n xs hown ad m c news hl hnews h1 h63 hbytes hbase
  have hat : ∀ g', v'.ownBlock = some g' → v.ownBlock = some g' ∨ w.heap.size ≤ g' := by
    intro g' hg'
    rcases hown.2 with ⟨e1, e2⟩ | ⟨g, cap, cur, e1, hg, hh, hnc, hcm, hcs, htk⟩
    · obtain ⟨v2, w2, hr2, k2, _⟩ := run_append_own (P := P) w w.heap.size t o.type e i z size bytes ht hi hz hsize hby hzs hsz v n xs ⟨hown.1, .inl ⟨e1, e2⟩⟩ ad m c news hl hnews h1 h63 hbytes (Nat.le_refl _)
      rw [hr2] at hr
      injection hr with e3 e4
      subst e3
      exact .inr (World.ownsRow.lt k2 g' hg').1
    · subst e1
      by_cases hrm : n + m ≤ cap
      · have hrun := run_append_room_cells (P := P) w t o.type e i ht hi g 0 n cap ad m c news (by rw [hsize]; exact hl) hnews h1 hrm (fun j hj => by
          rw [cell_of_row w g _ cur _ _ hh]
          have : 0 + n * i.size + j < cur.size := by
            rw [hcs, hsize]
            have := Nat.mul_le_mul_right size hrm
            rw [Nat.add_mul] at this
            omega
          rw [Array.getElem?_eq_getElem this]
          rfl) (fun j hj => World.ownsRow.frozenAt hown _)
        rw [hrun] at hr
        injection hr with e3 _
        left
        rw [← e3] at hg'
        exact hg'
      · obtain ⟨v2, w2, hr2, k2, _⟩ := run_append_arg_grows (P := P) w t o.type e i z size bytes ht hi hz hsize hby hzs hsz ⟨g, 0, none⟩ n cap xs hown.1 (fun j u hj => by
          have hj' := (List.getElem?_eq_some_iff.1 hj).1
          rw [hown.1] at hj'
          rw [add_lit', Nat.zero_add, World.ownsRow.cellAt hown j hj']
          exact hj) ad m c news hl hnews (by omega) h63 hbytes
        rw [hr2] at hr
        injection hr with e3 _
        subst e3
        exact .inr (World.ownsRow.lt k2 g' hg').1
  rcases h2.2 with ⟨_, e2⟩ | ⟨g', cap, cur, e1, _⟩
  · omega
  · subst e1
    unfold Oper.wp execOp
    simp only [ho, resolve, invoke, builtin, Sem.run_bind, Sem.run_pure, Result.andThen_ok, List.map_toArray, List.map_cons, List.map_nil, hs, hx, hr]
    exact hK _ _ (h g' cap w' h2 h3 (hat g' rfl))
theorem own_rcs {α : Type} {f : α → List Value} {sz : Nat} {e : TypeId} {w : World} {base : Nat} {a : Option Addr} {n c : Nat} {l : List α} (h : LOwn f sz e w base (.slice a n c) l) : Rcs f sz w a n c l := by
  obtain ⟨a', c', e1, hr⟩ := h.rcs
  simp only [Value.slice.injEq] at e1
  obtain ⟨rfl, rfl, rfl⟩ := e1
  exact hr
theorem own_len {α : Type} {f : α → List Value} {sz : Nat} {e : TypeId} {w : World} {base : Nat} {v : Value} {l : List α} {n : Nat} (h : LOwn f sz e w base v l) (hl : l.length = n) : ∃ a c, v = .slice a n c := by
  obtain ⟨a, c, e, -⟩ := h.rcs
  rw [hl] at e
  exact ⟨a, c, e⟩
/-- append of some literals to a list of one's own. -/
theorem append_lits {α : Type} {f : α → List Value} {byt : Nat} (hf : ∀ x, (f x).length = 1) (z : α) {t e : TypeId} (ht : Tryd.prog.underlying t = some (.slice e)) (hinfo : (Tryd.prog.info? e).map (fun i => (i.size, i.bytes, i.zero.map (·.cells))) = some (1, byt, some (f z).toArray))
    (w : World) {ops : Array Oper} {rest : List Oper} {o : Oper} {a : Act} {Q : Exit → Act → World → Prop} (hgd : o.guard = none) (s x : Operand)
    (ho : o.op = .call { callee := .builtin .append, args := #[s, x], argTypes := #[t, t] })
    (base : Nat) (v : Value) (l : List α) (hs : a.eval s = v) (hown : LOwn f 1 e w base v l)
    (g m c : Nat) (ys : List α) (hx : a.eval x = .slice (some ⟨g, 0, none⟩) m c) (hy : ys.length = m) (hB : Bk w g (ys.flatMap f) e) (one : ∀ u ∈ ys.flatMap f, u.oneCell' = true) (hm : 0 < m)
    (h63 : l.length + m ≤ 140737488355328) (hby : (l.length + m) * byt ≤ 140737488355328) (hbase : base ≤ w.heap.size)
    (h : ∀ g' c' w', LOwn f 1 e w' base (.slice (some ⟨g', 0, none⟩) (l.length + m) c') (l ++ ys) → w.grownBy w' v.ownBlock → (v.ownBlock = some g' ∨ w.heap.size ≤ g') → wpList Tryd.prog ops Q rest (a.put o.dst (.slice (some ⟨g', 0, none⟩) (l.length + m) c')) w') : wpList Tryd.prog ops Q (o :: rest) a w := by
  obtain ⟨i, zz, hi, hz, hsz, hb, hzc⟩ := info_open hinfo
  subst hy
  have hfl := fl_len hf ys
  refine append_at w hgd s x t ho base e i zz 1 byt ht hi hz hsz hb (by rw [hzc]; simp [hf]) (by decide) v l.length (l.flatMap f) hs hown ⟨g, 0, none⟩ ys.length c (ys.flatMap f) hx hfl ?_ one (by unfold maxLen; omega) hby hbase hm ?_
  · intro j u hu
    rw [add_lit', Nat.zero_add]
    exact hB.cell j hu
  · intro g' c' w' k1 k2 k3
    refine h g' c' w' ?_ k2 k3
    unfold LOwn
    rw [List.length_append, List.flatMap_append]
    exact k1
def iv (x : Int) : List Value := [.int .i64 x]
theorem iv1 (x : Int) : (iv x).length = 1 := rfl
theorem infoI : (Tryd.prog.info? 3).map (fun i => (i.size, i.bytes, i.zero.map (·.cells))) = some (1, 8, some (iv 0).toArray) := by kernel_rfl
theorem iv_one (l : List Int) : ∀ u ∈ l.flatMap iv, u.oneCell' = true := by
  intro u hu
  obtain ⟨x, -, hx⟩ := List.mem_flatMap.1 hu
  simp only [iv, List.mem_singleton] at hx
  subst hx
  rfl
abbrev IsOwn (w : World) (base : Nat) (v : Value) (l : List Int) : Prop := LOwn iv 1 3 w base v l
theorem isOwn_nil (w : World) (base : Nat) : IsOwn w base (.slice none 0 0) [] := World.ownsRow_nil _ _ _ _
theorem LOwn.frm {α : Type} {f : α → List Value} {sz : Nat} {e : TypeId} {S : Nat → Prop} {w w' : World} {base : Nat} {v : Value} {l : List α} (h : LOwn f sz e w base v l) (hf : Frm S w w') (hn : ∀ g, v.ownBlock = some g → ¬ S g) : LOwn f sz e w' base v l := by
  refine ⟨h.1, ?_⟩
  rcases h.2 with hn' | ⟨g, cap, cur, rfl, hb, hgg, rest⟩
  · exact .inl hn'
  · refine .inr ⟨g, cap, cur, rfl, hb, ?_, rest⟩
    have hlt : g < w.heap.size := (Array.getElem?_eq_some_iff.1 hgg).1
    rw [hf.block g hlt (hn g rfl)]
    exact hgg
theorem own_unlike {α β : Type} {f : α → List Value} {f' : β → List Value} {sz sz' : Nat} {e e' : TypeId} (he : e ≠ e') {w : World} {base base' : Nat} {v v' : Value} {l : List α} {l' : List β} (h : LOwn f sz e w base v l) (h' : LOwn f' sz' e' w base' v' l') {g : Nat} (hg : v.ownBlock = some g) : v'.ownBlock ≠ some g := fun hg' => by
  rcases h.2 with ⟨rfl, -⟩ | ⟨g1, cap, cur, rfl, -, hh, -⟩
  · cases hg
  · rcases h'.2 with ⟨rfl, -⟩ | ⟨g2, cap2, cur2, rfl, -, hh2, -⟩
    · cases hg'
    · simp only [Value.ownBlock, Option.some.injEq] at hg hg'
      subst hg hg'
      rw [hh] at hh2
      have h2 := Option.some.inj hh2
      injection h2 with h3 h4
      exact he h4
theorem own_box {α : Type} {f : α → List Value} {sz : Nat} {e ty : TypeId} (he : e ≠ ty) {w : World} {base b : Nat} {v : Value} {l : List α} {cs : List Value} (h : LOwn f sz e w base v l) (hb : Bk w b cs ty) : v.ownBlock ≠ some b := fun hg => by
  rcases h.2 with ⟨rfl, -⟩ | ⟨g1, cap, cur, rfl, -, hh, -⟩
  · cases hg
  · simp only [Value.ownBlock, Option.some.injEq] at hg
    subst hg
    unfold Bk at hb
    rw [hh] at hb
    have h2 := Option.some.inj hb
    injection h2 with h3 h4
    exact he h4
theorem step_other {α β : Type} {f : α → List Value} {f' : β → List Value} {sz sz' : Nat} {e e' : TypeId} (he : e ≠ e') {w w' : World} {base base' : Nat} {v v' : Value} {l : List α} {l' : List β} (h : LOwn f sz e w base v l) (h' : LOwn f' sz' e' w base' v' l') (hg : w.grownBy w' v.ownBlock) : LOwn f' sz' e' w' base' v' l' :=
  h'.frm (frm_grown hg) (fun g h1 h2 => own_unlike he h h' h2 h1)
theorem step_box {α : Type} {f : α → List Value} {sz : Nat} {e ty : TypeId} (he : e ≠ ty) {w w' : World} {base b : Nat} {v : Value} {l : List α} {cs : List Value} (h : LOwn f sz e w base v l) (hb : Bk w b cs ty) (hg : w.grownBy w' v.ownBlock) : Bk w' b cs ty := by
  have h1 := hb.lt
  have h2 := own_box he h hb
  unfold Bk at *
  rw [hg.block b h1 (Ne.symm h2)]
  exact hb
theorem lown_some {α : Type} {f : α → List Value} {sz : Nat} {e : TypeId} {w : World} {base : Nat} {a : Option Addr} {n c i : Nat} {l : List α} (h : LOwn f sz e w base (.slice a n c) l) (hi : i < n) : ∃ g, a = some ⟨g, 0, none⟩ := by
  rcases h.2 with ⟨e1, -⟩ | ⟨g, cap, cur, e1, -⟩
  · simp only [Value.slice.injEq] at e1
    omega
  · simp only [Value.slice.injEq] at e1
    exact ⟨g, e1.1⟩
end Go.Proofs.YthcmeboepedelaaDoor
