/-
  Lists of pages of one's own beside each other: where they lie, what an append leaves of the old one, whole pages laid into them.
-/
import Derived.Test.YtbekdbgnpcbklaaDoorPgEq
import Derived.Test.YtbekdbgnpcbklaaDoorPgUpd
import Derived.ArgAppend
import Derived.Laws.AppendOwn
import Derived.Deep.MidRow
import Derived.Deep.Upon
namespace Go.Proofs.YtbekdbgnpcbklaaDoor
open Go.RowKit FerryCrc
set_option linter.unusedVariables false
set_option linter.unusedSimpArgs false

theorem cells_put (r : Int) (d : Bool) (l : List Nat) (k c : Nat) : (⟨r, d, l.set k c⟩ : Pg).cells = (⟨r, d, l⟩ : Pg).cells.set (2 + k) (.int .u8 (c : Int)) := by
  rw [Nat.add_comm]
  simp [Pg.cells, Pg.row, List.map_set, bv]
def zPage : Array Value := (⟨0, false, List.replicate 64 0⟩ : Pg).cells.toArray
theorem zero_page (w : World) : (zeroValue 59).run Tryd.prog w = .ok (.agg zPage) w := by kernel_rfl
theorem zPage_ne : zPage ≠ #[] := by decide
theorem add_lit2 (b off i : Nat) : (⟨b, off, none⟩ : Addr).add i = ⟨b, off + i, none⟩ := by simp [Addr.add]
theorem grw_refl (w : World) (r : Option Nat) : w.grownBy w r := ⟨rfl, rfl, rfl, Nat.le_refl _, fun _ _ _ => rfl⟩
theorem grw_trans {w w1 w2 : World} {r : Option Nat} (h1 : w.grownBy w1 r) (h2 : w1.grownBy w2 r) : w.grownBy w2 r :=
  ⟨h2.os.trans h1.os, h2.tape.trans h1.tape, h2.output.trans h1.output, Nat.le_trans h1.size h2.size, fun k hk hn => (h2.block k (Nat.lt_of_lt_of_le hk h1.size) hn).trans (h1.block k hk hn)⟩
theorem grw_below {w w1 : World} (h : Below w.heap.size w w1) (r : Option Nat) : w.grownBy w1 r := ⟨h.os, h.tape, h.output, h.size, fun k hk _ => h.block k hk⟩
theorem own_past {base : Nat} {e : TypeId} {size g n cap : Nat} {xs : List Value} : ∀ (vs : List Value) (o : Nat) (w : World), n * size ≤ o → w.ownsRow base e size (.slice (some ⟨g, 0, none⟩) n cap) n xs →
    (w.setCells g o vs).ownsRow base e size (.slice (some ⟨g, 0, none⟩) n cap) n xs ∧ w.grownBy (w.setCells g o vs) (some g)
  | [], _, w, _, h => ⟨h, grw_refl w _⟩
  | v :: vs, o, w, ho, h => by
    obtain ⟨h1, g1⟩ := World.ownsRow.stored h o v
    rw [List.set_eq_of_length_le (by rw [h.1]; exact ho)] at h1
    obtain ⟨h2, g2⟩ := own_past vs (o + 1) _ (by omega) h1
    exact ⟨h2, grw_trans g1 g2⟩
/-- append to a row of one's own: the old row shows what it showed. -/
theorem append_old {P : Program} (w : World) {ops : Array Oper} {rest : List Oper} {o : Oper} {a : Act} {Q : Exit → Act → World → Prop} (hgd : o.guard = none) (s x : Operand) (t : TypeId)
    (ho : o.op = .call { callee := .builtin .append, args := #[s, x], argTypes := #[t, t] })
    (base : Nat) (e : TypeId) (i : TypeInfo) (z : Value) (size bytes : Nat) (ht : P.underlying t = some (.slice e)) (hi : P.info? e = some i) (hz : i.zero = some z)
    (hsize : i.size = size) (hby : i.bytes = bytes) (hzs : z.cells.size = size) (hsz : 0 < size)
    (v : Value) (n : Nat) (xs : List Value) (hs : a.eval s = v) (hown : w.ownsRow base e size v n xs)
    (ad : Addr) (m c : Nat) (news : List Value) (hx : a.eval x = .slice (some ad) m c) (hl : news.length = m * size) (hnews : ∀ j u, news[j]? = some u → w.cell? (ad.add j) = some u) (h1 : ∀ u ∈ news, u.oneCell' = true)
    (h63 : n + m ≤ maxLen) (hbytes : (n + m) * bytes ≤ 140737488355328) (hm : 0 < m)
    (h : ∀ a' c' w', w'.ownsRow base e size v n xs → w.grownBy w' v.ownBlock → wpList P ops Q rest (a.put o.dst (.slice a' (n + m) c')) w') : wpList P ops Q (o :: rest) a w := by
  refine wpList_plain hgd fun K hK => ?_
  have key : ∃ a' c' w', (Builtin.append_ #[t, t] o.type #[v, .slice (some ad) m c]).run P w = .ok (.slice a' (n + m) c') w' ∧ w'.ownsRow base e size v n xs ∧ w.grownBy w' v.ownBlock := by
    rcases hown.2 with ⟨e1, e2⟩ | ⟨g, cap, cur, e1, hg, hh, hnc, hcm, hcs, htk⟩
    · obtain ⟨v2, w2, hr2, k2, k3, _⟩ := run_append_own (P := P) w w.heap.size t o.type e i z size bytes ht hi hz hsize hby hzs hsz v n xs ⟨hown.1, .inl ⟨e1, e2⟩⟩ ad m c news hl hnews h1 h63 hbytes (Nat.le_refl _)
      rcases k2.2 with ⟨_, e4⟩ | ⟨g', cap', _, e4, _⟩
      · omega
      · subst e4
        exact ⟨_, _, _, hr2, ⟨hown.1, .inl ⟨e1, e2⟩⟩, k3⟩
    · subst e1
      by_cases hrm : n + m ≤ cap
      · have hrun := run_append_room_cells (P := P) w t o.type e i ht hi g 0 n cap ad m c news (by rw [hsize]; exact hl) hnews h1 hrm (fun j hj => by
          rw [cell_of_row w g _ cur _ _ hh]
          have : 0 + n * i.size + j < cur.size := by
            rw [hcs, hsize]
            have := Nat.mul_le_mul_right size hrm
            rw [Nat.add_mul] at this
            omega
          rw [Array.getElem?_eq_getElem this]
          rfl) (fun j hj => World.ownsRow.frozenAt hown _)
        obtain ⟨k1, k2⟩ := own_past news (0 + n * i.size) w (by rw [hsize]; omega) hown
        exact ⟨_, _, _, hrun, k1, k2⟩
      · obtain ⟨v2, w2, hr2, k2, k3⟩ := run_append_arg_grows (P := P) w t o.type e i z size bytes ht hi hz hsize hby hzs hsz ⟨g, 0, none⟩ n cap xs hown.1 (fun j u hj => by
          have hj' := (List.getElem?_eq_some_iff.1 hj).1
          rw [hown.1] at hj'
          rw [add_lit2, Nat.zero_add, World.ownsRow.cellAt hown j hj']
          exact hj) ad m c news hl hnews (by omega) h63 hbytes
        rcases k2.2 with ⟨_, e4⟩ | ⟨g', cap', _, e4, _⟩
        · omega
        · subst e4
          exact ⟨_, _, _, hr2, World.ownsRow.kept hown k3 (.inr (by simp [Value.ownBlock])), ⟨k3.os, k3.tape, k3.output, k3.size, fun k hk _ => k3.block k hk (by simp)⟩⟩
  obtain ⟨a', c', w', hr, k1, k2⟩ := key
  unfold Oper.wp execOp
  simp only [ho, resolve, invoke, builtin, Sem.run_bind, Sem.run_pure, Result.andThen_ok, List.map_toArray, List.map_cons, List.map_nil, hs, hx, hr]
  exact hK _ _ (h a' c' w' k1 k2)

/-- Where a slice's block lies. -/
def Within (v : Value) (lo hi : Nat) : Prop := ∀ k, v.ownBlock = some k → lo ≤ k ∧ k < hi
theorem Within.wide {v : Value} {lo hi lo' hi' : Nat} (h : Within v lo hi) (h1 : lo' ≤ lo) (h2 : hi ≤ hi') : Within v lo' hi' := fun k e => by have := h k e; omega
theorem apart_of {v v' : Value} {lo hi lo' hi' : Nat} (h : Within v lo hi) (h' : Within v' lo' hi') (hd : hi ≤ lo' ∨ hi' ≤ lo) : v.ownBlock = none ∨ v.ownBlock ≠ v'.ownBlock := by
  cases hv : v.ownBlock with
  | none => exact .inl rfl
  | some k =>
    refine .inr fun e => ?_
    have h1 := h k hv
    have h2 := h' k e.symm
    omega
theorem own_keep {w w' : World} {base : Nat} {e : TypeId} {sz n : Nat} {v v' : Value} {xs : List Value} {lo hi lo' hi' : Nat} (h : w.ownsRow base e sz v n xs) (hg : w.grownBy w' v'.ownBlock) (k : Within v lo hi) (k' : Within v' lo' hi') (hd : hi ≤ lo' ∨ hi' ≤ lo) : w'.ownsRow base e sz v n xs :=
  World.ownsRow.kept h hg (apart_of k k' hd)
theorem own_low {w w' : World} {base : Nat} {e : TypeId} {sz n : Nat} {v : Value} {xs : List Value} {lo hi B : Nat} (h : w.ownsRow base e sz v n xs) (k : Within v lo hi) (hB : hi ≤ B) (hb : Below B w w') : w'.ownsRow base e sz v n xs := by
  refine ⟨h.1, ?_⟩
  rcases h.2 with e | ⟨g, cap, cur, e, hg, hh, r⟩
  · exact .inl e
  · refine .inr ⟨g, cap, cur, e, hg, ?_, r⟩
    have := k g (by rw [e]; rfl)
    rw [hb.block g (by omega)]
    exact hh
/-- A page with nothing but rights. -/
def mkp (r : Int) : Pg := ⟨r, false, List.replicate 64 0⟩
theorem mkp_cells (r : Int) : (mkp r).cells.toArray = zPage.setIfInBounds 0 (.int .i64 r) := rfl
theorem mkp_ok {r : Int} (h1 : -9223372036854775808 ≤ r) (h2 : r ≤ 9223372036854775807) : (mkp r).Ok := ⟨h1, h2, by simp [mkp], by simp [mkp]⟩
/-- The begin of a list of one's own. -/
theorem own_front {w : World} {base g cap n len : Nat} {l F : List Pg} (h : POwn w base (.slice (some ⟨g, 0, none⟩) n cap) (l ++ F)) (ok : Oks l) (hl : l.length = len) (hm : len ≤ 1759218604391) : Pgs w (some ⟨g, 0, none⟩) len cap l := by
  rcases h.2 with ⟨e, _⟩ | ⟨g', cap', cur, e, hg, hh, hnc, hcm, hcs, htake⟩
  · simp at e
  · simp only [Value.slice.injEq, Option.some.injEq, Addr.mk.injEq, and_true] at e
    obtain ⟨rfl, e2, rfl⟩ := e
    rw [List.length_append] at hnc
    refine ⟨hl, hm, by omega, ok, fun e => by simp at e, fun k p hk => ⟨g, 0, rfl, fun j v hv => ?_⟩⟩
    have hkl : k < l.length := (List.getElem?_eq_some_iff.1 hk).1
    have hj : j < 66 := by
      have := (List.getElem?_eq_some_iff.1 hv).1
      rw [(ok p (List.mem_of_getElem? hk)).cells] at this
      exact this
    subst e2
    have hc := World.ownsRow.cellAt h (k * 66 + j) (by rw [List.length_append]; omega)
    have hf : flat (l ++ F) = flat l ++ flat F := by simp [flat]
    rw [Nat.zero_add, hc, hf, List.getElem?_append_left (by rw [flat_len ok]; omega), flat_get ok j hk hj]
    exact hv
/-- append of one page, with more room. -/
theorem append_pgx {w : World} {ops : Array Oper} {rest : List Oper} {o : Oper} {act : Act} {Q : Exit → Act → World → Prop} (hgd : o.guard = none) (s x : Operand)
    (ho : o.op = .call { callee := .builtin .append, args := #[s, x], argTypes := #[22, 22] })
    (base : Nat) (v : Value) (xs : List Pg) (hs : act.eval s = v) (hown : POwn w base v xs)
    (g c : Nat) (p : Pg) (hx : act.eval x = .slice (some ⟨g, 0, none⟩) 1 c) (hp : p.Ok) (hc : w.rangeAt g 0 p.cells)
    (h63 : xs.length < 1759218604430) (hbase : base ≤ w.heap.size)
    (h : ∀ v' w', POwn w' base v' (xs ++ [p]) → w.grownBy w' v.ownBlock → wpList Tryd.prog ops Q rest (act.put o.dst v') w') : wpList Tryd.prog ops Q (o :: rest) act w := by
  obtain ⟨i, z, hi, hz, hsz, hby, hzs⟩ := infoPage
  refine wpList_append_own w hgd s x 22 ho base 59 i z 66 80 Tryd.underlying22 hi hz hsz hby hzs (by decide) v xs.length (flat xs) hs hown ⟨g, 0, none⟩ 1 c p.cells hx (by rw [hp.cells]) ?_ p.one (by unfold maxLen; omega) (by omega) hbase ?_
  · intro j u hu
    rw [add_none]
    exact hc j u hu
  · intro v' w' h1 h2 h3
    refine h v' w' ?_ h2
    unfold POwn
    rw [List.length_append, flat_snoc]
    exact h1
/-- Cells laid over a row. -/
def setL : List Value → Nat → List Value → List Value
  | xs, _, [] => xs
  | xs, o, v :: vs => setL (xs.set o v) (o + 1) vs
theorem setL_past : ∀ (vs xs ys : List Value) (o : Nat), setL (xs ++ ys) (xs.length + o) vs = xs ++ setL ys o vs
  | [], _, _, _ => rfl
  | v :: vs, xs, ys, o => by
    show setL ((xs ++ ys).set (xs.length + o) v) (xs.length + o + 1) vs = xs ++ setL (ys.set o v) (o + 1) vs
    rw [List.set_append_right _ _ (by omega), show xs.length + o - xs.length = o by omega, show xs.length + o + 1 = xs.length + (o + 1) by omega]
    exact setL_past vs xs (ys.set o v) (o + 1)
theorem setL_all : ∀ (vs xs ys : List Value), xs.length = vs.length → setL (xs ++ ys) 0 vs = vs ++ ys
  | [], xs, ys, h => by
    obtain rfl : xs = [] := List.length_eq_zero_iff.1 h
    rfl
  | v :: vs, x :: xs, ys, h => by
    have h1 := setL_past vs [v] (xs ++ ys) 0
    have h2 := setL_all vs xs ys (by simpa using h)
    show setL (v :: (xs ++ ys)) (0 + 1) vs = v :: (vs ++ ys)
    rw [h2] at h1
    exact h1
theorem own_setL {base : Nat} {e : TypeId} {size g n cap : Nat} : ∀ (vs : List Value) (o : Nat) (w : World) (xs : List Value), w.ownsRow base e size (.slice (some ⟨g, 0, none⟩) n cap) n xs →
    (w.setCells g o vs).ownsRow base e size (.slice (some ⟨g, 0, none⟩) n cap) n (setL xs o vs) ∧ w.grownBy (w.setCells g o vs) (some g)
  | [], _, w, _, h => ⟨h, grw_refl w _⟩
  | v :: vs, o, w, xs, h => by
    obtain ⟨h1, g1⟩ := World.ownsRow.stored h o v
    obtain ⟨h2, g2⟩ := own_setL vs (o + 1) _ _ h1
    exact ⟨h2, grw_trans g1 g2⟩
theorem flat_setp : ∀ {l : List Pg} (h : Oks l) {k : Nat} {p q : Pg}, l[k]? = some p → q.Ok → setL (flat l) (k * 66) q.cells = flat (l.set k q)
  | [], _, k, p, q, hp, _ => by simp at hp
  | x :: l, h, 0, p, q, hp, hq => by
    have hx := (h x (by simp)).cells
    show setL (x.cells ++ flat l) (0 * 66) q.cells = q.cells ++ flat l
    rw [Nat.zero_mul]
    exact setL_all q.cells x.cells (flat l) (by rw [hx, hq.cells])
  | x :: l, h, k + 1, p, q, hp, hq => by
    have hx := (h x (by simp)).cells
    have ih := flat_setp (l := l) (fun y hy => h y (by simp [hy])) (k := k) (p := p) (q := q) (by simpa using hp) hq
    show setL (x.cells ++ flat l) ((k + 1) * 66) q.cells = x.cells ++ flat (l.set k q)
    rw [← ih, ← setL_past, hx, show (k + 1) * 66 = 66 + k * 66 by omega]
theorem Oks.set {l : List Pg} (h : Oks l) (k : Nat) {q : Pg} (hq : q.Ok) : Oks (l.set k q) := fun p hp => by
  rcases List.mem_or_eq_of_mem_set hp with h1 | rfl
  · exact h p h1
  · exact hq
/-- Four lists of pages in a list, a fifth beside them; no two share a block. -/
structure Fv (w : World) (G B : Nat) (v : Nat → Value) (L : Nat → List Pg) : Prop where
  row : ∀ i, i < 4 → w.cell? ⟨G, i, none⟩ = some (v i)
  own : ∀ i, i < 5 → POwn w B (v i) (L i)
  ok : ∀ i, i < 5 → Oks (L i)
  most : ∀ i, i < 5 → (L i).length ≤ 1759218604391
  apart : ∀ i j, i < 5 → j < 5 → i ≠ j → (v i).ownBlock = none ∨ (v i).ownBlock ≠ (v j).ownBlock
  box : ∀ i, i < 5 → (v i).ownBlock ≠ some G
theorem Fv.below {w w' : World} {G B : Nat} {v : Nat → Value} {L : Nat → List Pg} (h : Fv w G B v L) (hb : Below w.heap.size w w') : Fv w' G B v L :=
  ⟨fun i hi => (hb.cell (p := ⟨G, i, none⟩) (block_lt_of_cell (h.row i hi))).trans (h.row i hi), fun i hi => (h.own i hi).below hb, h.ok, h.most, h.apart, h.box⟩
/-- A call that may write into the i-th list's block alone, and leaves what that list shows. -/
theorem Fv.grown {w w' : World} {G B : Nat} {v : Nat → Value} {L L' : Nat → List Pg} (h : Fv w G B v L) {i : Nat} (hi : i < 5) (hg : w.grownBy w' (v i).ownBlock) (ho : POwn w' B (v i) (L' i)) (hok : Oks (L' i)) (hm : (L' i).length ≤ 1759218604391) (hL : ∀ j, j ≠ i → L' j = L j) : Fv w' G B v L' := by
  refine ⟨fun j hj => hg.cell (a := ⟨G, j, none⟩) (h.row j hj) (fun e => h.box i hi e.symm), fun j hj => ?_, fun j hj => ?_, fun j hj => ?_, h.apart, h.box⟩
  · by_cases e : j = i
    · subst e; exact ho
    · rw [hL j e]
      exact World.ownsRow.kept (h.own j hj) hg (h.apart j i hj hi e)
  · by_cases e : j = i
    · subst e; exact hok
    · rw [hL j e]; exact h.ok j hj
  · by_cases e : j = i
    · subst e; exact hm
    · rw [hL j e]; exact h.most j hj
def setAt (L : Nat → List Pg) (i : Nat) (l : List Pg) : Nat → List Pg := fun j => if j = i then l else L j
theorem setAt_same (L : Nat → List Pg) (i : Nat) (l : List Pg) : setAt L i l i = l := if_pos rfl
theorem setAt_else (L : Nat → List Pg) {i j : Nat} (l : List Pg) (h : j ≠ i) : setAt L i l j = L j := if_neg h
/-- A whole page is laid into the i-th list. -/
theorem Fv.put {w : World} {G B g n c : Nat} {v : Nat → Value} {L : Nat → List Pg} (h : Fv w G B v L) {i k : Nat} (hi : i < 5) (hv : v i = .slice (some ⟨g, 0, none⟩) n c) (hn : (L i).length = n) (hk : k < n) {q : Pg} (hq : q.Ok) :
    w.there g (k * 66) q.cells.toArray.size ∧ Fv (w.setCells g (k * 66) q.cells) G B v (setAt L i ((L i).set k q)) ∧ w.grownBy (w.setCells g (k * 66) q.cells) (some g) ∧ B ≤ g := by
  subst hn
  have ho := h.own i hi
  rw [hv] at ho
  obtain ⟨p, hp⟩ : ∃ p, (L i)[k]? = some p := ⟨_, List.getElem?_eq_getElem hk⟩
  have hB := (World.ownsRow.lt ho g rfl).1
  obtain ⟨h1, h2⟩ := own_setL q.cells (k * 66) w _ ho
  rw [flat_setp (h.ok i hi) hp hq] at h1
  refine ⟨fun j hj => ?_, h.grown hi (by rw [hv]; exact h2) ?_ ?_ ?_ (fun j hj => setAt_else L _ hj), h2, hB⟩
  · rw [List.size_toArray, hq.cells] at hj
    refine ⟨?_, World.ownsRow.frozenAt ho _⟩
    have hc := World.ownsRow.cellAt ho (k * 66 + j) (by omega)
    rw [hc, flat_get (h.ok i hi) j hp hj]
    have : j < p.cells.length := by rw [(h.ok i hi p (List.mem_of_getElem? hp)).cells]; exact hj
    simp [this]
  · rw [setAt_same, hv]
    unfold POwn
    rw [List.length_set]
    exact h1
  · rw [setAt_same]
    exact (h.ok i hi).set k hq
  · rw [setAt_same, List.length_set]
    exact h.most i hi
/-- What is marked by now. -/
def Mkd (L : Nat → List Pg) (i k : Nat) : Prop := ∀ i' j', i' < 4 → (i' < i ∨ (i' = i ∧ j' < k)) → j' < (L i').length → ∃ p, (L i')[j']? = some p ∧ p.rights = -1000 * ((i' : Int) + 1) - (j' : Int)
theorem Mkd.put {L : Nat → List Pg} {i k : Nat} (h : Mkd L i k) (hk : k < (L i).length) : Mkd (setAt L i ((L i).set k (mkp (-1000 * ((i : Int) + 1) - (k : Int))))) i (k + 1) := by
  intro i' j' h4 hb hl
  by_cases e : i' = i
  · subst e
    rw [setAt_same] at hl ⊢
    rw [List.length_set] at hl
    by_cases e2 : j' = k
    · subst e2
      exact ⟨_, by rw [List.getElem?_set_self hk], rfl⟩
    · rw [List.getElem?_set_ne (by omega)]
      exact h i' j' h4 (.inr ⟨rfl, by omega⟩) hl
  · rw [setAt_else L _ e] at hl ⊢
    exact h i' j' h4 (.inl (by omega)) hl
theorem Mkd.next {L : Nat → List Pg} {i : Nat} (h : Mkd L i (L i).length) : Mkd L (i + 1) 0 := fun i' j' h4 hb hl => by
  by_cases e : i' = i
  · subst e; exact h i' j' h4 (.inr ⟨rfl, hl⟩) hl
  · exact h i' j' h4 (.inl (by omega)) hl
theorem xor1 : ∀ c : Fin 256, bits .xor .u8 (c.val : Int) 1 = ((c.val ^^^ 1 : Nat) : Int) ∧ c.val ^^^ 1 < 256 := by decide +kernel
theorem xor4 : ∀ c : Fin 256, bits .xor .u8 (c.val : Int) 4 = ((c.val ^^^ 4 : Nat) : Int) ∧ c.val ^^^ 4 < 256 := by decide +kernel
/-- A byte of a page in the front part is changed. -/
theorem own_byte {w : World} {base g cap n : Nat} {l F : List Pg} (h : POwn w base (.slice (some ⟨g, 0, none⟩) n cap) (l ++ F)) (ok : Oks l) (okF : Oks F) {k j : Nat} {p : Pg} (hp : l[k]? = some p) (hj : j < 64) :
    ∃ c, p.data[j]? = some c ∧ c < 256 ∧ w.cell? ⟨g, k * 66 + (2 + j), none⟩ = some (.int .u8 (c : Int)) ∧ w.frozen? ⟨g, k * 66 + (2 + j), none⟩ = false ∧
      ∀ x : Nat, x < 256 → POwn (w.setCell ⟨g, k * 66 + (2 + j), none⟩ (.int .u8 (x : Int))) base (.slice (some ⟨g, 0, none⟩) n cap) (l.set k ⟨p.rights, p.dirty, p.data.set j x⟩ ++ F) ∧ Oks (l.set k ⟨p.rights, p.dirty, p.data.set j x⟩) ∧ w.grownBy (w.setCell ⟨g, k * 66 + (2 + j), none⟩ (.int .u8 (x : Int))) (some g) := by
  have hpo := ok p (List.mem_of_getElem? hp)
  have okA : Oks (l ++ F) := fun q hq => by
    rcases List.mem_append.1 hq with h1 | h1
    · exact ok q h1
    · exact okF q h1
  obtain rfl : n = (l ++ F).length := by
    rcases h.2 with ⟨e, _⟩ | ⟨g', cap', cur, e, _⟩
    · simp at e
    · simp only [Value.slice.injEq] at e
      exact e.2.1
  have hkl : k < l.length := (List.getElem?_eq_some_iff.1 hp).1
  have hpA : (l ++ F)[k]? = some p := by rw [List.getElem?_append_left hkl]; exact hp
  have hjl : j < p.data.length := by rw [hpo.size]; exact hj
  refine ⟨p.data[j], List.getElem?_eq_getElem hjl, hpo.small _ (List.getElem_mem hjl), ?_, World.ownsRow.frozenAt h _, fun x hx => ?_⟩
  · rw [World.ownsRow.cellAt h (k * 66 + (2 + j)) (by rw [List.length_append]; omega), flat_get okA (2 + j) hpA (by omega)]
    rw [Nat.add_comm 2 j]
    simp [Pg.cells, Pg.row, hjl, bv]
  · have hst := POwn.stored h okA hpA (j := 2 + j) (by omega) (cells_put p.rights p.dirty p.data j x)
    have hqo : (⟨p.rights, p.dirty, p.data.set j x⟩ : Pg).Ok := ⟨hpo.lo, hpo.hi, by simp [hpo.size], fun c hc => by
      rcases List.mem_or_eq_of_mem_set hc with h1 | rfl
      · exact hpo.small c h1
      · exact hx⟩
    rw [List.set_append_left _ _ hkl] at hst
    exact ⟨hst, ok.set k hqo, (World.ownsRow.stored h (k * 66 + (2 + j)) _).2⟩
end Go.Proofs.YtbekdbgnpcbklaaDoor
