/-
  A family of lists of numbers of the call's own, held in a list of slices.
  append to a row of one's own: the new row, and the old one as it was.
  LinkMemory's appends: a list behind the lists, a number behind the numbers; the old rows as they were.
  Appends to a copy of one list: what the list itself shows meanwhile.
  The marks of LinkMemory: what the lists hold list by list.
  LinkMemory's state: both links, the lists that were got, the marks.
-/
import Derived.Test.YtgnkmenjjmfcfaaDoorLkPlays
namespace Go.Proofs.YtgnkmenjjmfcfaaDoor
open Go.RowKit FerryCrc
set_option linter.unusedVariables false
set_option linter.unusedSimpArgs false

/-- A slice's value. -/
structure Sl where
  a : Option Addr
  n : Nat
  c : Nat
def Sl.v (g : Sl) : Value := .slice g.a g.n g.c
def gv (g : Sl) : List Value := [g.v]
theorem gv1 (g : Sl) : (gv g).length = 1 := rfl
theorem infoG : (Tryd.prog.info? 51).map (fun i => (i.size, i.bytes, i.zero.map (·.cells))) = some (1, 24, some (gv ⟨none, 0, 0⟩).toArray) := by kernel_rfl
theorem gv_one (l : List Sl) : ∀ u ∈ l.flatMap gv, u.oneCell' = true := by
  intro u hu
  obtain ⟨x, -, hx⟩ := List.mem_flatMap.1 hu
  simp only [gv, List.mem_singleton] at hx
  subst hx
  rfl
theorem ngi : (51 : TypeId) ≠ 3 := by decide
/-- The lists, their rows apart from one another. -/
structure Fm (w : World) (base : Nat) (v : Value) (G : List Sl) (C : List (List Int)) : Prop where
  own : LOwn gv 1 51 w base v G
  len : C.length = G.length
  each : ∀ (j : Nat) g l, G[j]? = some g → C[j]? = some l → IsOwn w base g.v l
  apart : ∀ (i j : Nat) gi gj b, i ≠ j → G[i]? = some gi → G[j]? = some gj → gi.v.ownBlock = some b → gj.v.ownBlock ≠ some b
/-- Its blocks. -/
def FB (v : Value) (G : List Sl) (b : Nat) : Prop := v.ownBlock = some b ∨ ∃ (j : Nat) (g : Sl), G[j]? = some g ∧ g.v.ownBlock = some b
theorem fm_nil (w : World) (base : Nat) : Fm w base (.slice none 0 0) [] [] := ⟨World.ownsRow_nil _ _ _ _, rfl, fun j g l h => by simp at h, fun i j gi gj b _ h => by simp at h⟩
theorem Fm.frm {S : Nat → Prop} {w w' : World} {base : Nat} {v : Value} {G : List Sl} {C : List (List Int)} (h : Fm w base v G C) (hf : Frm S w w') (hS : ∀ b, FB v G b → ¬ S b) : Fm w' base v G C :=
  ⟨h.own.frm hf (fun g e => hS g (.inl e)), h.len, fun j g l hg hl => (h.each j g l hg hl).frm hf (fun b e => hS b (.inr ⟨j, g, hg, e⟩)), h.apart⟩
theorem Fm.below {w w' : World} {base : Nat} {v : Value} {G : List Sl} {C : List (List Int)} (h : Fm w base v G C) (hb : Below w.heap.size w w') : Fm w' base v G C := h.frm (S := fun _ => False) ⟨hb.os, hb.tape, hb.output, hb.size, fun k hk _ => hb.block k hk⟩ (fun _ _ e => e)
theorem Fm.lt {w : World} {base : Nat} {v : Value} {G : List Sl} {C : List (List Int)} (h : Fm w base v G C) {b : Nat} (hb : FB v G b) : base ≤ b ∧ b < w.heap.size := by
  rcases hb with e | ⟨j, g, hg, e⟩
  · exact World.ownsRow.lt h.own b e
  · have hj := (List.getElem?_eq_some_iff.1 hg).1
    have h1 := h.each j g _ hg (List.getElem?_eq_getElem (by rw [h.len]; exact hj))
    exact World.ownsRow.lt h1 b e
theorem Fm.get {w : World} {base : Nat} {v : Value} {G : List Sl} {C : List (List Int)} (h : Fm w base v G C) {j : Nat} (hj : j < G.length) : ∃ g l, G[j]? = some g ∧ C[j]? = some l ∧ IsOwn w base g.v l ∧ g.n = l.length := by
  have hc : j < C.length := by rw [h.len]; exact hj
  have h1 := h.each j _ _ (List.getElem?_eq_getElem hj) (List.getElem?_eq_getElem hc)
  refine ⟨_, _, List.getElem?_eq_getElem hj, List.getElem?_eq_getElem hc, h1, ?_⟩
  obtain ⟨a, c, e, -⟩ := h1.rcs
  unfold Sl.v at e
  simp only [Value.slice.injEq] at e
  exact e.2.1
/-- The family lies apart from both links. -/
theorem fm_links {wb w : World} {base lb mb rb : Nat} {va : Option Addr} {vc : Nat} {L : Lk} {D : List Md} {v : Value} {G : List Sl} {C : List (List Int)} (h : Fm w base v G C) (T : Tw2 wb w lb mb rb va vc L D) : ∀ b, FB v G b → ¬ PW lb mb rb va b := by
  have hone : ∀ {α : Type} {f : α → List Value} {e : TypeId} {u : Value} {l : List α}, e ≠ 61 → e ≠ 28 → e ≠ 83 → LOwn f 1 e w base u l → ∀ b, u.ownBlock = some b → ¬ PW lb mb rb va b := by
    intro α f e u l h1 h2 h3 ho b hb hp
    rcases hp with (rfl | rfl) | (rfl | e2)
    · exact (lown_apart h1 ho T.l hb).1 rfl
    · exact (lown_apart h1 ho T.l hb).2 rfl
    · exact own_box h2 ho T.r.bk hb
    · exact own_unlike h3 ho T.r.own hb (by rw [ob]; exact e2)
  intro b hb
  rcases hb with e | ⟨j, g, hg, e⟩
  · exact hone (by decide) (by decide) (by decide) h.own b e
  · have hj := (List.getElem?_eq_some_iff.1 hg).1
    exact hone (by decide) (by decide) (by decide) (h.each j g _ hg (List.getElem?_eq_getElem (by rw [h.len]; exact hj))) b e
/-- One list more: the row has grown, the list is new to it. -/
theorem Fm.snoc {w w' : World} {base : Nat} {v v' : Value} {G : List Sl} {C : List (List Int)} {g : Sl} {l : List Int} (h : Fm w base v G C) (ho : LOwn gv 1 51 w' base v' (G ++ [g])) (hg : w.grownBy w' v.ownBlock) (hl : IsOwn w base g.v l) (hne : ∀ b, g.v.ownBlock = some b → ∀ (j : Nat) (gj : Sl), G[j]? = some gj → gj.v.ownBlock ≠ some b) : Fm w' base v' (G ++ [g]) (C ++ [l]) := by
  have hk : ∀ {u : Value} {m : List Int}, IsOwn w base u m → IsOwn w' base u m := fun hm => step_other ngi h.own hm hg
  refine ⟨ho, by rw [List.length_append, List.length_append, h.len]; rfl, fun j gj lj h1 h2 => ?_, fun i j gi gj b hij h1 h2 e1 e2 => ?_⟩
  · by_cases e : j < G.length
    · rw [List.getElem?_append_left e] at h1
      rw [List.getElem?_append_left (by rw [h.len]; exact e)] at h2
      exact hk (h.each j gj lj h1 h2)
    · have hj := (List.getElem?_eq_some_iff.1 h1).1
      rw [List.length_append, List.length_singleton] at hj
      obtain rfl : j = G.length := by omega
      rw [List.getElem?_concat_length] at h1
      rw [← h.len, List.getElem?_concat_length] at h2
      obtain rfl := Option.some.inj h1
      obtain rfl := Option.some.inj h2
      exact hk hl
  · have hi := (List.getElem?_eq_some_iff.1 h1).1
    have hj := (List.getElem?_eq_some_iff.1 h2).1
    rw [List.length_append, List.length_singleton] at hi hj
    by_cases a : i < G.length
    · rw [List.getElem?_append_left a] at h1
      by_cases c : j < G.length
      · rw [List.getElem?_append_left c] at h2
        exact h.apart i j gi gj b hij h1 h2 e1 e2
      · obtain rfl : j = G.length := by omega
        rw [List.getElem?_concat_length] at h2
        obtain rfl := Option.some.inj h2
        exact hne b e2 i gi h1 e1
    · obtain rfl : i = G.length := by omega
      rw [List.getElem?_concat_length] at h1
      obtain rfl := Option.some.inj h1
      rw [List.getElem?_append_left (by omega)] at h2
      exact hne b e1 j gj h2 e2
/-- A number stored into one of them. -/
theorem Fm.put {w : World} {base : Nat} {v : Value} {G : List Sl} {C : List (List Int)} (h : Fm w base v G C) {j k b : Nat} {g : Sl} {l : List Int} (hg : G[j]? = some g) (hl : C[j]? = some l) (hb : g.a = some ⟨b, 0, none⟩) (hk : k < l.length) (x : Int) :
    Fm (w.setCell ⟨b, k, none⟩ (.int .i64 x)) base v G (C.set j (l.set k x)) ∧ (∃ u, w.cell? ⟨b, k, none⟩ = some u) ∧ w.frozen? ⟨b, k, none⟩ = false ∧ w.grownBy (w.setCell ⟨b, k, none⟩ (.int .i64 x)) (some b) := by
  have ho := h.each j g l hg hl
  have hgv : g.v = .slice (some ⟨b, 0, none⟩) g.n g.c := by unfold Sl.v; rw [hb]
  have hn : l.length = g.n := by
    obtain ⟨a, c, e, -⟩ := ho.rcs
    unfold Sl.v at e
    simp only [Value.slice.injEq] at e
    exact e.2.1.symm
  rw [hgv] at ho
  obtain ⟨z1, z2, z3, -, -⟩ := LOwn.put iv1 ho hn (k := k) (by omega) x
  obtain ⟨y1, y2⟩ := z1 0 (by decide)
  simp only [Nat.mul_one, Nat.add_zero] at y1 y2
  rw [Nat.mul_one] at z2 z3
  have hblk : g.v.ownBlock = some b := by rw [hgv]; rfl
  have hz3 : w.grownBy (w.setCell ⟨b, k, none⟩ (.int .i64 x)) (some b) := z3
  refine ⟨⟨?_, by rw [List.length_set]; exact h.len, fun i gi li h1 h2 => ?_, h.apart⟩, y1, y2, hz3⟩
  · exact h.own.frm (frm_grown hz3) (fun c e e2 => by
      obtain rfl := Option.some.inj e2
      exact own_unlike ngi h.own (h.each j g l hg hl) e hblk)
  · by_cases e : i = j
    · subst e
      rw [hg] at h1
      obtain rfl := Option.some.inj h1
      rw [List.getElem?_set_self (List.getElem?_eq_some_iff.1 hl).1] at h2
      obtain rfl := Option.some.inj h2
      rw [hgv]
      exact z2
    · rw [List.getElem?_set_ne (fun x => e x.symm)] at h2
      exact (h.each i gi li h1 h2).frm (frm_grown hz3) (fun c e1 e2 => by
        obtain rfl := Option.some.inj e2
        exact h.apart i j gi g _ e h1 hg e1 hblk)
end Go.Proofs.YtgnkmenjjmfcfaaDoor
namespace Go.Proofs.YtgnkmenjjmfcfaaDoor
open Go.RowKit FerryCrc Q
set_option linter.unusedVariables false
set_option linter.unusedSimpArgs false
theorem grk_refl (w : World) (r : Option Nat) : w.grownBy w r := ⟨rfl, rfl, rfl, Nat.le_refl _, fun _ _ _ => rfl⟩
theorem grk_trans {w w1 w2 : World} {r : Option Nat} (h1 : w.grownBy w1 r) (h2 : w1.grownBy w2 r) : w.grownBy w2 r :=
  ⟨h2.os.trans h1.os, h2.tape.trans h1.tape, h2.output.trans h1.output, Nat.le_trans h1.size h2.size, fun k hk hn => (h2.block k (Nat.lt_of_lt_of_le hk h1.size) hn).trans (h1.block k hk hn)⟩
theorem own_past {base : Nat} {e : TypeId} {size g n cap : Nat} {xs : List Value} : ∀ (vs : List Value) (o : Nat) (w : World), n * size ≤ o → w.ownsRow base e size (.slice (some ⟨g, 0, none⟩) n cap) n xs →
    (w.setCells g o vs).ownsRow base e size (.slice (some ⟨g, 0, none⟩) n cap) n xs ∧ w.grownBy (w.setCells g o vs) (some g)
  | [], _, w, _, h => ⟨h, grk_refl w _⟩
  | v :: vs, o, w, ho, h => by
    obtain ⟨h1, g1⟩ := World.ownsRow.stored h o v
    rw [List.set_eq_of_length_le (by rw [h.1]; exact ho)] at h1
    obtain ⟨h2, g2⟩ := own_past vs (o + 1) _ (by omega) h1
    exact ⟨h2, grk_trans g1 g2⟩
theorem old_run {P : Program} (w : World) (t ot : TypeId)
    (base : Nat) (e : TypeId) (i : TypeInfo) (z : Value) (size bytes : Nat) (ht : P.underlying t = some (.slice e)) (hi : P.info? e = some i) (hz : i.zero = some z)
    (hsize : i.size = size) (hby : i.bytes = bytes) (hzs : z.cells.size = size) (hsz : 0 < size)
    (v : Value) (n : Nat) (xs : List Value) (hown : w.ownsRow base e size v n xs)
    (ad : Addr) (m c : Nat) (news : List Value) (hl : news.length = m * size) (hnews : ∀ j u, news[j]? = some u → w.cell? (ad.add j) = some u) (h1 : ∀ u ∈ news, u.oneCell' = true)
    (h63 : n + m ≤ maxLen) (hbytes : (n + m) * bytes ≤ 140737488355328) (hbase : base ≤ w.heap.size) (hm : 0 < m) :
    ∃ g' c' w', (Builtin.append_ #[t, t] ot #[v, .slice (some ad) m c]).run P w = .ok (.slice (some ⟨g', 0, none⟩) (n + m) c') w' ∧ w'.ownsRow base e size (.slice (some ⟨g', 0, none⟩) (n + m) c') (n + m) (xs ++ news) ∧ w'.ownsRow base e size v n xs ∧ w.grownBy w' v.ownBlock ∧ (v.ownBlock = some g' ∨ w.heap.size ≤ g') := by
  obtain ⟨g1, c1, w1, hr, q1, q2, q3⟩ := app_run (P := P) w t ot base e i z size bytes ht hi hz hsize hby hzs hsz v n xs hown ad m c news hl hnews h1 h63 hbytes hbase hm
  refine ⟨g1, c1, w1, hr, q1, ?_, q2, q3⟩
  rcases hown.2 with ⟨e1, e2⟩ | ⟨g, cap, cur, e1, hg, hh, hnc, hcm, hcs, htk⟩
  · exact ⟨hown.1, .inl ⟨e1, e2⟩⟩
  · subst e1
    by_cases hrm : n + m ≤ cap
    · have hrun := run_append_room_cells (P := P) w t ot e i ht hi g 0 n cap ad m c news (by rw [hsize]; exact hl) hnews h1 hrm (fun j hj => by
        rw [cell_of_row w g _ cur _ _ hh]
        have : 0 + n * i.size + j < cur.size := by
          rw [hcs, hsize]
          have := Nat.mul_le_mul_right size hrm
          rw [Nat.add_mul] at this
          omega
        rw [Array.getElem?_eq_getElem this]
        rfl) (fun j hj => World.ownsRow.frozenAt hown _)
      rw [hrun] at hr
      injection hr with _ e4
      rw [← e4]
      exact (own_past news (0 + n * i.size) w (by rw [hsize]; omega) hown).1
    · obtain ⟨v2, w2, hr2, k2, k3⟩ := run_append_arg_grows (P := P) w t ot e i z size bytes ht hi hz hsize hby hzs hsz ⟨g, 0, none⟩ n cap xs hown.1 (fun j u hj => by
        have hj' := (List.getElem?_eq_some_iff.1 hj).1
        rw [hown.1] at hj'
        rw [add_lit', Nat.zero_add, World.ownsRow.cellAt hown j hj']
        exact hj) ad m c news hl hnews (by omega) h63 hbytes
      rw [hr2] at hr
      injection hr with _ e4
      rw [← e4]
      exact World.ownsRow.kept hown k3 (.inr (by simp [Value.ownBlock]))
end Go.Proofs.YtgnkmenjjmfcfaaDoor
namespace Go.Proofs.YtgnkmenjjmfcfaaDoor
open Go.RowKit FerryCrc Q
set_option linter.unusedVariables false
set_option linter.unusedSimpArgs false
theorem run_g (w : World) (ot : TypeId) (base : Nat) (v : Value) (G : List Sl) (hown : LOwn gv 1 51 w base v G) (g c : Nat) (x : Sl) (hB : Bk w g (gv x) 51)
    (hby : (G.length + 1) * 24 ≤ 140737488355328) (hbase : base ≤ w.heap.size) :
    ∃ g' c' w', (Builtin.append_ #[56, 56] ot #[v, .slice (some ⟨g, 0, none⟩) 1 c]).run Tryd.prog w = .ok (.slice (some ⟨g', 0, none⟩) (G.length + 1) c') w' ∧ LOwn gv 1 51 w' base (.slice (some ⟨g', 0, none⟩) (G.length + 1) c') (G ++ [x]) ∧ LOwn gv 1 51 w' base v G ∧ w.grownBy w' v.ownBlock ∧ (v.ownBlock = some g' ∨ w.heap.size ≤ g') := by
  obtain ⟨i, zz, hi, hz, hsz, hb, hzc⟩ := info_open infoG
  obtain ⟨g', c', w', hr, k1, k2, k3, k4⟩ := old_run (P := Tryd.prog) w 56 ot base 51 i zz 1 24 Tryd.underlying56 hi hz hsz hb (by rw [hzc]; rfl) (by decide) v G.length (G.flatMap gv) hown ⟨g, 0, none⟩ 1 c (gv x) rfl (fun j u hu => by rw [add_lit', Nat.zero_add]; exact hB.cell j hu) (fun u hu => gv_one [x] u (by simpa using hu)) (by unfold maxLen; omega) hby hbase (by decide)
  refine ⟨g', c', w', hr, ?_, k2, k3, k4⟩
  unfold LOwn
  rw [List.length_append, List.flatMap_append]
  simpa using k1
theorem step_g {w : World} {ops : Array Oper} {rest : List Oper} {o : Oper} {a : Act} {Q : Exit → Act → World → Prop} (hgd : o.guard = none) (s x : Operand)
    (ho : o.op = .call { callee := .builtin .append, args := #[s, x], argTypes := #[56, 56] })
    (base : Nat) (v : Value) (G : List Sl) (hs : a.eval s = v) (hown : LOwn gv 1 51 w base v G) (g c : Nat) (y : Sl) (hx : a.eval x = .slice (some ⟨g, 0, none⟩) 1 c) (hB : Bk w g (gv y) 51)
    (hby : (G.length + 1) * 24 ≤ 140737488355328) (hbase : base ≤ w.heap.size)
    (h : ∀ g' c' w', LOwn gv 1 51 w' base (.slice (some ⟨g', 0, none⟩) (G.length + 1) c') (G ++ [y]) → LOwn gv 1 51 w' base v G → w.grownBy w' v.ownBlock → (v.ownBlock = some g' ∨ w.heap.size ≤ g') → wpList Tryd.prog ops Q rest (a.put o.dst (.slice (some ⟨g', 0, none⟩) (G.length + 1) c')) w') : wpList Tryd.prog ops Q (o :: rest) a w := by
  refine wpList_plain hgd fun K hK => ?_
  obtain ⟨g', c', w', hr, k1, k2, k3, k4⟩ := run_g w o.type base v G hown g c y hB hby hbase
  unfold Oper.wp execOp
  simp only [ho, resolve, invoke, builtin, Sem.run_bind, Sem.run_pure, Result.andThen_ok, List.map_toArray, List.map_cons, List.map_nil, hs, hx, hr]
  exact hK _ _ (h g' c' w' k1 k2 k3 k4)
/-- A beginning of a row, in the row's own block. -/
theorem own_begin {w : World} {base : Nat} {e : TypeId} {size g n m c : Nat} {xs : List Value} (h : w.ownsRow base e size (.slice (some ⟨g, 0, none⟩) m c) m xs) (hn : n ≤ m) : w.ownsRow base e size (.slice (some ⟨g, 0, none⟩) n c) n (xs.take (n * size)) := by
  have hx := h.1
  have hle := Nat.mul_le_mul_right size hn
  refine ⟨by rw [List.length_take]; omega, ?_⟩
  rcases h.2 with ⟨e1, _⟩ | ⟨g', cap, cur, e1, hg, hh, hnc, hcm, hcs, htk⟩
  · simp at e1
  · simp only [Value.slice.injEq, Option.some.injEq, Addr.mk.injEq, and_true, true_and] at e1
    obtain ⟨rfl, rfl⟩ := e1
    refine .inr ⟨g, c, cur, rfl, hg, hh, Nat.le_trans hn hnc, hcm, hcs, ?_⟩
    rw [← htk, List.take_take, Nat.min_eq_left hle]
theorem step_i {w : World} {ops : Array Oper} {rest : List Oper} {o : Oper} {a : Act} {Q : Exit → Act → World → Prop} (hgd : o.guard = none) (s x : Operand)
    (ho : o.op = .call { callee := .builtin .append, args := #[s, x], argTypes := #[51, 51] })
    (base : Nat) (v : Value) (l : List Int) (hs : a.eval s = v) (hown : IsOwn w base v l) (g c : Nat) (y : Int) (hx : a.eval x = .slice (some ⟨g, 0, none⟩) 1 c) (hB : Bk w g (iv y) 3)
    (hby : (l.length + 1) * 8 ≤ 140737488355328) (hbase : base ≤ w.heap.size)
    (h : ∀ g' c' w', IsOwn w' base (.slice (some ⟨g', 0, none⟩) (l.length + 1) c') (l ++ [y]) → IsOwn w' base v l → w.grownBy w' v.ownBlock → (v.ownBlock = some g' ∨ w.heap.size ≤ g') → wpList Tryd.prog ops Q rest (a.put o.dst (.slice (some ⟨g', 0, none⟩) (l.length + 1) c')) w') : wpList Tryd.prog ops Q (o :: rest) a w := by
  refine wpList_plain hgd fun K hK => ?_
  obtain ⟨i, zz, hi, hz, hsz, hb, hzc⟩ := info_open infoI
  obtain ⟨g', c', w', hr, k1, k2, k3, k4⟩ := old_run (P := Tryd.prog) w 51 o.type base 3 i zz 1 8 Tryd.underlying51 hi hz hsz hb (by rw [hzc]; rfl) (by decide) v l.length (l.flatMap iv) hown ⟨g, 0, none⟩ 1 c (iv y) rfl (fun j u hu => by rw [add_lit', Nat.zero_add]; exact hB.cell j hu) (fun u hu => iv_one [y] u (by simpa using hu)) (by unfold maxLen; omega) hby hbase (by decide)
  unfold Oper.wp execOp
  simp only [ho, resolve, invoke, builtin, Sem.run_bind, Sem.run_pure, Result.andThen_ok, List.map_toArray, List.map_cons, List.map_nil, hs, hx, hr]
  refine hK _ _ (h g' c' w' ?_ k2 k3 k4)
  unfold IsOwn LOwn
  rw [List.length_append, List.flatMap_append]
  simpa using k1
end Go.Proofs.YtgnkmenjjmfcfaaDoor
namespace Go.Proofs.YtgnkmenjjmfcfaaDoor
open Go.RowKit FerryCrc Q
set_option linter.unusedVariables false
set_option linter.unusedSimpArgs false
structure E8 (w : World) (base B : Nat) (x : Sl) (l : List Int) (v : Value) (M : List Int) : Prop where
  row : IsOwn w base v (l ++ M)
  old : IsOwn w base x.v l
  cap : ∀ b, v.ownBlock = some b → x.v.ownBlock = some b → ∃ n, v = .slice (some ⟨b, 0, none⟩) n x.c
  blk : ∀ b, v.ownBlock = some b → x.v.ownBlock = some b ∨ B ≤ b
theorem row_form {w : World} {base : Nat} {e : TypeId} {size n b : Nat} {v : Value} {xs : List Value} (h : w.ownsRow base e size v n xs) (hb : v.ownBlock = some b) : ∃ c, v = .slice (some ⟨b, 0, none⟩) n c := by
  rcases h.2 with ⟨e1, _⟩ | ⟨g', cap, cur, e1, hg, hh, hnc, hcm, hcs, htk⟩
  · subst e1; simp [Value.ownBlock] at hb
  · subst e1
    obtain rfl := Option.some.inj hb
    exact ⟨cap, rfl⟩
theorem own_caps {w : World} {base : Nat} {e e' : TypeId} {m m' n n' b c c' : Nat} {xs xs' : List Value} (h : w.ownsRow base e 1 (.slice (some ⟨b, 0, none⟩) m c) n xs) (h' : w.ownsRow base e' 1 (.slice (some ⟨b, 0, none⟩) m' c') n' xs') : c = c' := by
  rcases h.2 with ⟨e1, _⟩ | ⟨g1, cap, cur, e1, hg, hh, hnc, hcm, hcs, htk⟩
  · simp at e1
  · rcases h'.2 with ⟨e2, _⟩ | ⟨g2, cap2, cur2, e2, hg2, hh2, hnc2, hcm2, hcs2, htk2⟩
    · simp at e2
    · simp only [Value.slice.injEq, Option.some.injEq, Addr.mk.injEq, and_true, true_and] at e1 e2
      obtain ⟨rfl, -, rfl⟩ := e1
      obtain ⟨rfl, -, rfl⟩ := e2
      rw [hh] at hh2
      simp only [Option.some.injEq, Obj.cells.injEq] at hh2
      have := hh2.1
      subst this
      omega
theorem E8.first {w : World} {base B : Nat} {x : Sl} {l : List Int} (h : IsOwn w base x.v l) : E8 w base B x l x.v [] :=
  ⟨by rw [List.append_nil]; exact h, h, fun b e _ => by obtain ⟨c, hc⟩ := row_form h e; unfold Sl.v at hc ⊢; simp only [Value.slice.injEq] at hc; exact ⟨l.length, by rw [hc.1, hc.2.1]⟩, fun b e => .inl e⟩
theorem E8.below {w w' : World} {base B : Nat} {x : Sl} {l M : List Int} {v : Value} (h : E8 w base B x l v M) (hb : Below w.heap.size w w') : E8 w' base B x l v M := ⟨h.row.below hb, h.old.below hb, h.cap, h.blk⟩
theorem E8.next {w w' : World} {base B g c : Nat} {x : Sl} {l M : List Int} {v : Value} {y : Int} (h : E8 w base B x l v M) (hB : B ≤ w.heap.size) (h1 : IsOwn w' base (.slice (some ⟨g, 0, none⟩) ((l ++ M).length + 1) c) (l ++ M ++ [y])) (h2 : IsOwn w' base v (l ++ M)) (hg : w.grownBy w' v.ownBlock) (hn : v.ownBlock = some g ∨ w.heap.size ≤ g) :
    E8 w' base B x l (.slice (some ⟨g, 0, none⟩) ((l ++ M).length + 1) c) (M ++ [y]) := by
  refine ⟨by rw [← List.append_assoc]; exact h1, ?_, fun b e ex => ?_, fun b e => ?_⟩
  · by_cases hv : ∃ b, v.ownBlock = some b ∧ x.v.ownBlock = some b
    · obtain ⟨b, hv, hx⟩ := hv
      obtain ⟨n, rfl⟩ := h.cap b hv hx
      obtain ⟨cx, hcx⟩ := row_form h.old hx
      obtain ⟨cv, hcv⟩ := row_form h2 hv
      simp only [Value.slice.injEq, true_and] at hcv
      obtain ⟨rfl, -⟩ := hcv
      have hk := own_begin (n := l.length) h2 (by rw [List.length_append]; omega)
      unfold Sl.v at hcx ⊢
      simp only [Value.slice.injEq] at hcx
      rw [hcx.1, hcx.2.1]
      unfold IsOwn LOwn
      rw [List.flatMap_append, List.take_append_of_le_length (by rw [h.old.1]; exact Nat.le_refl _), List.take_of_length_le (by rw [h.old.1]; exact Nat.le_refl _)] at hk
      exact hk
    · refine World.ownsRow.kept h.old hg ?_
      cases hx : x.v.ownBlock with
      | none => exact .inl rfl
      | some k => exact .inr fun e => hv ⟨k, e.symm, hx⟩
  · obtain rfl := Option.some.inj e
    rcases hn with hn | hn
    · obtain ⟨n, rfl⟩ := h.cap _ hn ex
      obtain ⟨cv, hcv⟩ := row_form h2 hn
      simp only [Value.slice.injEq, true_and] at hcv
      obtain ⟨rfl, -⟩ := hcv
      exact ⟨_, by rw [own_caps h1 h2]⟩
    · have h5 : g < w.heap.size := (World.ownsRow.lt h.old g ex).2
      omega
  · obtain rfl := Option.some.inj e
    rcases hn with hn | hn
    · exact h.blk _ hn
    · exact .inr (Nat.le_trans hB hn)
end Go.Proofs.YtgnkmenjjmfcfaaDoor
namespace Go.Proofs.YtgnkmenjjmfcfaaDoor
open Go.RowKit FerryCrc Q
set_option linter.unusedVariables false
set_option linter.unusedSimpArgs false
/-- The n marks below m. -/
def mrk (m : Int) (n : Nat) : List Int := (List.range n).map (fun (k : Nat) => m - 1 - (k : Int))
theorem mrk_len (m : Int) (n : Nat) : (mrk m n).length = n := by simp [mrk]
theorem mrk_at {m : Int} {n k : Nat} (hk : k < n) : (mrk m n)[k]? = some (m - 1 - (k : Int)) := by simp [mrk, hk]
theorem mrk_succ (m : Int) (n : Nat) : mrk m (n + 1) = mrk m n ++ [m - 1 - (n : Int)] := by simp [mrk, List.range_succ]
/-- The first k of l marked. -/
def mkd (m : Int) (k : Nat) (l : List Int) : List Int := mrk m k ++ l.drop k
theorem mkd_zero (m : Int) (l : List Int) : mkd m 0 l = l := by simp [mkd, mrk]
theorem mkd_len {m : Int} {k : Nat} {l : List Int} (hk : k ≤ l.length) : (mkd m k l).length = l.length := by simp [mkd, mrk_len]; omega
theorem mkd_all (m : Int) (l : List Int) : mkd m l.length l = mrk m l.length := by simp [mkd]
theorem mkd_set {m : Int} {k : Nat} {l : List Int} (hk : k < l.length) : (mkd m k l).set k (m - 1 - (k : Int)) = mkd m (k + 1) l := by
  unfold mkd
  rw [List.set_append_right _ _ (by rw [mrk_len]; exact Nat.le_refl _), mrk_len, Nat.sub_self, mrk_succ, List.drop_eq_getElem_cons hk, List.set_cons_zero, List.append_assoc]
  rfl
structure Mks (C0 : List (List Int)) (i : Nat) (F : List Int) (C : List (List Int)) : Prop where
  len : C.length = C0.length
  lenF : F.length = i
  ls : ∀ (j : Nat) l l0, C[j]? = some l → C0[j]? = some l0 → l.length = l0.length
  mks : ∀ (j : Nat) l f, C[j]? = some l → F[j]? = some f → l = mrk f l.length
theorem Mks.first (C : List (List Int)) : Mks C 0 [] C := ⟨rfl, rfl, fun j l l0 h h0 => by rw [h] at h0; rw [Option.some.inj h0], fun j l f _ h => by simp at h⟩
theorem Mks.next {C0 C : List (List Int)} {i : Nat} {F : List Int} {l : List Int} (h : Mks C0 i F C) (hl : C[i]? = some l) (f : Int) : Mks C0 (i + 1) (F ++ [f]) (C.set i (mrk f l.length)) := by
  have hi := (List.getElem?_eq_some_iff.1 hl).1
  refine ⟨by rw [List.length_set]; exact h.len, by rw [List.length_append, h.lenF]; rfl, fun j a a0 h1 h2 => ?_, fun j a g h1 h2 => ?_⟩
  · by_cases e : j = i
    · subst e
      rw [List.getElem?_set_self hi] at h1
      rw [← Option.some.inj h1, mrk_len]
      exact h.ls _ _ _ hl h2
    · rw [List.getElem?_set_ne (fun x => e x.symm)] at h1
      exact h.ls _ _ _ h1 h2
  · by_cases e : j = i
    · subst e
      rw [List.getElem?_set_self hi] at h1
      rw [← h.lenF, List.getElem?_concat_length] at h2
      rw [← Option.some.inj h1, ← Option.some.inj h2, mrk_len]
    · rw [List.getElem?_set_ne (fun x => e x.symm)] at h1
      have hj := (List.getElem?_eq_some_iff.1 h2).1
      rw [List.length_append, List.length_singleton, h.lenF] at hj
      rw [List.getElem?_append_left (by rw [h.lenF]; omega)] at h2
      exact h.mks _ _ _ h1 h2
end Go.Proofs.YtgnkmenjjmfcfaaDoor
namespace Go.Proofs.YtgnkmenjjmfcfaaDoor
open Go.RowKit FerryCrc Q
set_option linter.unusedVariables false
set_option linter.unusedSimpArgs false
theorem fb_snoc {v v' : Value} {G : List Sl} {x : Sl} {s : Nat} (hn : ∀ b, v'.ownBlock = some b → v.ownBlock = some b ∨ s ≤ b) {b : Nat} (h : FB v' (G ++ [x]) b) : FB v G b ∨ s ≤ b ∨ x.v.ownBlock = some b := by
  rcases h with e | ⟨j, g, hg, e⟩
  · rcases hn b e with e | e
    · exact .inl (.inl e)
    · exact .inr (.inl e)
  · by_cases hj : j < G.length
    · rw [List.getElem?_append_left hj] at hg
      exact .inl (.inr ⟨j, g, hg, e⟩)
    · have h1 := (List.getElem?_eq_some_iff.1 hg).1
      rw [List.length_append, List.length_singleton] at h1
      obtain rfl : j = G.length := by omega
      rw [List.getElem?_concat_length] at hg
      obtain rfl := Option.some.inj hg
      exact .inr (.inr e)
/-- A list of one's own lies apart from both links. -/
theorem own_links {α : Type} {f : α → List Value} {e : TypeId} {wb w : World} {base lb mb rb : Nat} {va : Option Addr} {vc : Nat} {L : Lk} {D : List Md} {u : Value} {l : List α} (h1 : e ≠ 61) (h2 : e ≠ 28) (h3 : e ≠ 83) (ho : LOwn f 1 e w base u l) (T : Tw2 wb w lb mb rb va vc L D) : ∀ b, u.ownBlock = some b → ¬ PW lb mb rb va b := by
  intro b hb hp
  rcases hp with (rfl | rfl) | (rfl | e2)
  · exact (lown_apart h1 ho T.l hb).1 rfl
  · exact (lown_apart h1 ho T.l hb).2 rfl
  · exact own_box h2 ho T.r.bk hb
  · exact own_unlike h3 ho T.r.own hb (by rw [ob]; exact e2)
structure Lm (wb w : World) (lb mb rb : Nat) (va : Option Addr) (vc : Nat) (L : Lk) (D : List Md) (v1 : Value) (G1 : List Sl) (v2 : Value) (G2 : List Sl) (C1 C2 : List (List Int)) : Prop where
  t : Tw2 wb w lb mb rb va vc L D
  f1 : Fm w wb.heap.size v1 G1 C1
  f2 : Fm w wb.heap.size v2 G2 C2
  ap : ∀ b, FB v1 G1 b → ¬ FB v2 G2 b
theorem Lm.sym {wb w : World} {lb mb rb : Nat} {va : Option Addr} {vc : Nat} {L : Lk} {D : List Md} {v1 : Value} {G1 : List Sl} {v2 : Value} {G2 : List Sl} {C1 C2 : List (List Int)} (h : Lm wb w lb mb rb va vc L D v1 G1 v2 G2 C1 C2) : Lm wb w lb mb rb va vc L D v2 G2 v1 G1 C2 C1 := ⟨h.t, h.f2, h.f1, fun b h1 h2 => h.ap b h2 h1⟩
theorem Lm.below {wb w w' : World} {lb mb rb : Nat} {va : Option Addr} {vc : Nat} {L : Lk} {D : List Md} {v1 : Value} {G1 : List Sl} {v2 : Value} {G2 : List Sl} {C1 C2 : List (List Int)} (h : Lm wb w lb mb rb va vc L D v1 G1 v2 G2 C1 C2) (hb : Below w.heap.size w w') : Lm wb w' lb mb rb va vc L D v1 G1 v2 G2 C1 C2 := ⟨tw_below h.t hb, h.f1.below hb, h.f2.below hb, h.ap⟩
theorem Lm.plays {wb w w' : World} {lb mb rb : Nat} {va : Option Addr} {vc : Nat} {L : Lk} {D : List Md} {v1 : Value} {G1 : List Sl} {v2 : Value} {G2 : List Sl} {C1 C2 : List (List Int)} {kd : Int} (h : Lm wb w lb mb rb va vc L D v1 G1 v2 G2 C1 C2) (p : TPost wb w w' lb mb rb va L kd) : ∃ va' vc' L' D', Lm wb w' lb mb rb va' vc' L' D' v1 G1 v2 G2 C1 C2 ∧ L'.n ≤ L.n + 1 := by
  obtain ⟨L', D', va', vc', T, fr, nb, hle, -⟩ := p
  exact ⟨va', vc', L', D', ⟨T, h.f1.frm fr (fm_links h.f1 h.t), h.f2.frm fr (fm_links h.f2 h.t), h.ap⟩, hle⟩
theorem Lm.fresh {wb w : World} {lb mb rb : Nat} {va : Option Addr} {vc : Nat} {L : Lk} {D : List Md} {v1 : Value} {G1 : List Sl} {v2 : Value} {G2 : List Sl} {C1 C2 : List (List Int)} (h : Lm wb w lb mb rb va vc L D v1 G1 v2 G2 C1 C2) {b : Nat} (hb : w.heap.size ≤ b) : ¬ FB v1 G1 b ∧ ¬ FB v2 G2 b := ⟨fun e => by have := (h.f1.lt e).2; omega, fun e => by have := (h.f2.lt e).2; omega⟩
theorem Lm.snoc {wb w w' : World} {lb mb rb : Nat} {va : Option Addr} {vc : Nat} {L : Lk} {D : List Md} {v1 v1' : Value} {G1 : List Sl} {v2 : Value} {G2 : List Sl} {C1 C2 : List (List Int)} {x : Sl} {l : List Int} (h : Lm wb w lb mb rb va vc L D v1 G1 v2 G2 C1 C2) (ho : LOwn gv 1 51 w' wb.heap.size v1' (G1 ++ [x])) (hg : w.grownBy w' v1.ownBlock) (hn : ∀ b, v1'.ownBlock = some b → v1.ownBlock = some b ∨ w.heap.size ≤ b) (hx : IsOwn w wb.heap.size x.v l) (hx1 : ∀ b, x.v.ownBlock = some b → ¬ FB v1 G1 b ∧ ¬ FB v2 G2 b) : Lm wb w' lb mb rb va vc L D v1' (G1 ++ [x]) v2 G2 (C1 ++ [l]) C2 := by
  have hb : Below wb.heap.size wb w' := h.t.b.trans (Frm.below (frm_grown hg) h.t.b.size (fun k hk => (h.f1.lt (.inl hk)).1))
  refine ⟨tw_frm h.t (frm_grown hg) (fun k hk e => fm_links h.f1 h.t k (.inl e) hk) hb, h.f1.snoc ho hg hx (fun b e j gj hj ej => (hx1 b e).1 (.inr ⟨j, gj, hj, ej⟩)), h.f2.frm (frm_grown hg) (fun b e1 e2 => h.ap b (.inl e2) e1), fun b h1 h2 => ?_⟩
  rcases fb_snoc hn h1 with e | e | e
  · exact h.ap b e h2
  · exact (h.fresh e).2 h2
  · exact (hx1 b e).2 h2
/-- The list that was got from the program is laid with the lists. -/
theorem Lm.one {wb w w3 w' : World} {lb mb rb : Nat} {va : Option Addr} {vc : Nat} {L : Lk} {D : List Md} {v1 v1' : Value} {G1 : List Sl} {v2 : Value} {G2 : List Sl} {C1 C2 : List (List Int)} {x y : Sl} {l m : List Int} (h : Lm wb w lb mb rb va vc L D v1 G1 v2 G2 C1 C2) (b3 : Below w.heap.size w w3) (hx : IsOwn w3 w.heap.size x.v l) (hy : IsOwn w3 w.heap.size y.v m) (hxy : ∀ b, x.v.ownBlock = some b → y.v.ownBlock ≠ some b) (ho : LOwn gv 1 51 w' wb.heap.size v1' (G1 ++ [x])) (hg : w3.grownBy w' v1.ownBlock) (hn : ∀ b, v1'.ownBlock = some b → v1.ownBlock = some b ∨ w3.heap.size ≤ b) : Lm wb w' lb mb rb va vc L D v1' (G1 ++ [x]) v2 G2 (C1 ++ [l]) C2 ∧ IsOwn w' w.heap.size y.v m ∧ (∀ b, y.v.ownBlock = some b → ¬ FB v1' (G1 ++ [x]) b ∧ ¬ FB v2 G2 b) := by
  have h3 := h.below b3
  have hwb := h.t.b.size
  refine ⟨h3.snoc ho hg hn (hx.weaken hwb) (fun b e => h.fresh (World.ownsRow.lt hx b e).1), hy.frm (frm_grown hg) (fun b e e2 => by have h1 := (World.ownsRow.lt hy b e).1; have h2 := (h.f1.lt (.inl e2)).2; omega), fun b e => ⟨fun hb => ?_, (h.fresh (World.ownsRow.lt hy b e).1).2⟩⟩
  have h1 := World.ownsRow.lt hy b e
  rcases fb_snoc hn hb with e2 | e2 | e2
  · exact (h.fresh h1.1).1 e2
  · omega
  · exact hxy b e2 e
theorem lm_first {wb w : World} {lb mb rb : Nat} {va : Option Addr} {vc : Nat} {L : Lk} {D : List Md} (t : Tw2 wb w lb mb rb va vc L D) : Lm wb w lb mb rb va vc L D (.slice none 0 0) [] (.slice none 0 0) [] [] [] := ⟨t, fm_nil _ _, fm_nil _ _, fun b h1 => by rcases h1 with e | ⟨j, g, hg, -⟩ <;> simp [Value.ownBlock] at *⟩
/-- With the list of marks. -/
structure Ln (wb w : World) (lb mb rb : Nat) (va : Option Addr) (vc : Nat) (L : Lk) (D : List Md) (v1 : Value) (G1 : List Sl) (C : List (List Int)) (vf : Value) (F : List Int) : Prop where
  t : Tw2 wb w lb mb rb va vc L D
  f : Fm w wb.heap.size v1 G1 C
  o : IsOwn w wb.heap.size vf F
  ap : ∀ b, vf.ownBlock = some b → ¬ FB v1 G1 b
theorem Lm.marks {wb w : World} {lb mb rb : Nat} {va : Option Addr} {vc : Nat} {L : Lk} {D : List Md} {v1 : Value} {G1 : List Sl} {v2 : Value} {G2 : List Sl} {C1 C2 : List (List Int)} (h : Lm wb w lb mb rb va vc L D v1 G1 v2 G2 C1 C2) : Ln wb w lb mb rb va vc L D v1 G1 C1 (.slice none 0 0) [] := ⟨h.t, h.f1, isOwn_nil _ _, fun b e => by simp [Value.ownBlock] at e⟩
theorem Ln.below {wb w w' : World} {lb mb rb : Nat} {va : Option Addr} {vc : Nat} {L : Lk} {D : List Md} {v1 : Value} {G1 : List Sl} {C : List (List Int)} {vf : Value} {F : List Int} (h : Ln wb w lb mb rb va vc L D v1 G1 C vf F) (hb : Below w.heap.size w w') : Ln wb w' lb mb rb va vc L D v1 G1 C vf F := ⟨tw_below h.t hb, h.f.below hb, h.o.below hb, h.ap⟩
/-- One mark more. -/
theorem Ln.more {wb w w' : World} {lb mb rb : Nat} {va : Option Addr} {vc : Nat} {L : Lk} {D : List Md} {v1 : Value} {G1 : List Sl} {C : List (List Int)} {vf vf' : Value} {F F' : List Int} (h : Ln wb w lb mb rb va vc L D v1 G1 C vf F) (ho : IsOwn w' wb.heap.size vf' F') (hg : w.grownBy w' vf.ownBlock) (hn : ∀ b, vf'.ownBlock = some b → vf.ownBlock = some b ∨ w.heap.size ≤ b) : Ln wb w' lb mb rb va vc L D v1 G1 C vf' F' := by
  have hb : Below wb.heap.size wb w' := h.t.b.trans (Frm.below (frm_grown hg) h.t.b.size (fun k hk => (World.ownsRow.lt h.o k hk).1))
  refine ⟨tw_frm h.t (frm_grown hg) (fun k hk e => own_links (by decide) (by decide) (by decide) h.o h.t k e hk) hb, h.f.frm (frm_grown hg) (fun b e1 e2 => h.ap b e2 e1), ho, fun b e hb2 => ?_⟩
  rcases hn b e with e2 | e2
  · exact h.ap b e2 hb2
  · have := (h.f.lt hb2).2
    omega
/-- What is changed is one list's block. -/
theorem Ln.frm {wb w w' : World} {lb mb rb : Nat} {va : Option Addr} {vc : Nat} {L : Lk} {D : List Md} {v1 : Value} {G1 : List Sl} {C C' : List (List Int)} {vf : Value} {F : List Int} {S : Nat → Prop} (h : Ln wb w lb mb rb va vc L D v1 G1 C vf F) (fr : Frm S w w') (hS : ∀ b, S b → FB v1 G1 b) (f : Fm w' wb.heap.size v1 G1 C') : Ln wb w' lb mb rb va vc L D v1 G1 C' vf F :=
  ⟨tw_frm h.t fr (fun k hk e => fm_links h.f h.t k (hS k e) hk) (h.t.b.trans (fr.below h.t.b.size (fun k hk => (h.f.lt (hS k hk)).1))), f, h.o.frm fr (fun b e e2 => h.ap b e (hS b e2)), h.ap⟩
theorem Ln.put {wb w : World} {lb mb rb : Nat} {va : Option Addr} {vc : Nat} {L : Lk} {D : List Md} {v1 : Value} {G1 : List Sl} {C : List (List Int)} {vf : Value} {F : List Int} (h : Ln wb w lb mb rb va vc L D v1 G1 C vf F) {j k b : Nat} {g : Sl} {l : List Int} (hg : G1[j]? = some g) (hl : C[j]? = some l) (hb : g.a = some ⟨b, 0, none⟩) (hk : k < l.length) (x : Int) :
    Ln wb (w.setCell ⟨b, k, none⟩ (.int .i64 x)) lb mb rb va vc L D v1 G1 (C.set j (l.set k x)) vf F ∧ (∃ u, w.cell? ⟨b, k, none⟩ = some u) ∧ w.frozen? ⟨b, k, none⟩ = false := by
  obtain ⟨z1, z2, z3, z4⟩ := h.f.put hg hl hb hk x
  exact ⟨h.frm (frm_grown z4) (fun c e => .inr ⟨j, g, hg, by unfold Sl.v; rw [hb, ← e]; rfl⟩) z1, z2, z3⟩
/-- The appends to a copy of one of the lists. -/
theorem Ln.e8 {wb w w' : World} {lb mb rb : Nat} {va : Option Addr} {vc : Nat} {L : Lk} {D : List Md} {v1 : Value} {G1 : List Sl} {C : List (List Int)} {vf : Value} {F : List Int} (h : Ln wb w lb mb rb va vc L D v1 G1 C vf F) {j : Nat} {g : Sl} {l : List Int} (hg : G1[j]? = some g) (hl : C[j]? = some l) (fr : Frm (fun b => g.v.ownBlock = some b) w w') (old : IsOwn w' wb.heap.size g.v l) : Ln wb w' lb mb rb va vc L D v1 G1 C vf F := by
  have ej := h.f.each j g l hg hl
  refine h.frm fr (fun b e => .inr ⟨j, g, hg, e⟩) ⟨h.f.own.frm fr (fun b e1 e2 => own_unlike ngi h.f.own ej e1 e2), h.f.len, fun i gi li h1 h2 => ?_, h.f.apart⟩
  by_cases e : i = j
  · subst e
    rw [hg] at h1
    rw [hl] at h2
    obtain rfl := Option.some.inj h1
    obtain rfl := Option.some.inj h2
    exact old
  · exact (h.f.each i gi li h1 h2).frm fr (fun b e1 e2 => h.f.apart i j gi g b e h1 hg e1 e2)
end Go.Proofs.YtgnkmenjjmfcfaaDoor
