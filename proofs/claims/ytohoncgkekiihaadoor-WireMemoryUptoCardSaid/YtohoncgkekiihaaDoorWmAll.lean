/-
  Lists of bytes of the call's own, no two of which share memory, held in a list of the call's own: marks are written into them.
  append of one byte to a list of the call's own: in its place, or into new memory with the old block as it was.
  Lists of texts of the call's own.
  The marks of the law's apart: what the lists hold once they are marked.
  Lists that grow byte by byte beside the lists that they came from.
  The law's apart.
  Lists with room behind them, lists of lists that take others in, what Split answers as memory of its own.
-/
import Derived.Test.YtohoncgkekiihaaDoorDlBoth
import Derived.ArgAppend
import Derived.Deep.MidRow
import Derived.Deep.CutBlock
import Derived.Test.YtohoncgkekiihaaDoorWOpen0
namespace Go.Proofs.YtohoncgkekiihaaDoor
open Go.RowKit FerryCrc
set_option linter.unusedVariables false
set_option linter.unusedSimpArgs false

/-- No two of the lists share a block. -/
def Pw (rs : List JW) : Prop := ∀ (i j : Nat) (x y : JW), i ≠ j → rs[i]? = some x → rs[j]? = some y → ∀ k, x.v.ownBlock = some k → y.v.ownBlock ≠ some k
/-- The same list with other bytes. -/
def JW.wl (r : JW) (l : List Nat) : JW := { r with l := l }
theorem JW.wl_v (r : JW) (l : List Nat) : (r.wl l).v = r.v := rfl
theorem mem_at {α : Type} {l : List α} {x : α} (h : x ∈ l) : ∃ i : Nat, l[i]? = some x := List.mem_iff_getElem?.1 h
theorem set_at {α : Type} {l : List α} {i j : Nat} {x y : α} (h : (l.set i x)[j]? = some y) : (i = j ∧ x = y) ∨ (i ≠ j ∧ l[j]? = some y) := by
  rw [List.getElem?_set] at h
  split at h
  · rename_i e
    split at h
    · exact .inl ⟨e, Option.some.inj h⟩
    · cases h
  · rename_i e
    exact .inr ⟨e, h⟩
theorem set_v (rs : List JW) (i : Nat) (r : JW) (l : List Nat) (h : rs[i]? = some r) : (rs.set i (r.wl l)).map JW.v = rs.map JW.v := by
  rw [List.map_set, JW.wl_v]
  refine List.ext_getElem? (fun j => ?_)
  rw [List.getElem?_set]
  split
  · rename_i e
    subst e
    have hl := (List.getElem?_eq_some_iff.1 h).1
    rw [List.length_map, if_pos hl, List.getElem?_map, h]
    rfl
  · rfl
theorem Pw.set {rs : List JW} (h : Pw rs) (i : Nat) (r : JW) (l : List Nat) (hi : rs[i]? = some r) : Pw (rs.set i (r.wl l)) := by
  intro a b x y hab hx hy k hk
  rcases set_at hx with ⟨rfl, rfl⟩ | ⟨n1, hx⟩ <;> rcases set_at hy with ⟨rfl, rfl⟩ | ⟨n2, hy⟩
  · exact absurd rfl hab
  · exact h i b r y hab hi hy k hk
  · exact h a i x r hab hx hi k hk
  · exact h a b x y hab hx hy k hk
/-- The row of the list of lists stays where another block is written. -/
theorem row_frm {S : Nat → Prop} {w w' : World} {base sz n : Nat} {e : TypeId} {v : Value} {cs : List Value} (h : w.ownsRow base e sz v n cs) (hf : Frm S w w') (hS : ∀ k, v.ownBlock = some k → ¬ S k) : w'.ownsRow base e sz v n cs := by
  refine ⟨h.1, ?_⟩
  rcases h.2 with e | ⟨g, cap, cur, e, hg, hh, r⟩
  · exact .inl e
  · refine .inr ⟨g, cap, cur, e, hg, ?_, r⟩
    rw [hf.block g (Array.getElem?_eq_some_iff.1 hh).1 (hS g (by rw [e]; rfl))]
    exact hh
/-- A byte is written into one of the lists. -/
theorem DbOwn.put {w : World} {base : Nat} {v : Value} {rs : List JW} (h : DbOwn w base v rs) (hp : Pw rs) {i : Nat} {r : JW} (hi : rs[i]? = some r) {g n c : Nat} (hv : r.v = .slice (some ⟨g, 0, none⟩) n c) (hn : r.l.length = n) (j x : Nat) :
    DbOwn (w.setCell ⟨g, j, none⟩ (.int .u8 (x : Int))) base v (rs.set i (r.wl (r.l.set j x))) := by
  have hf := frm_setCell w ⟨g, j, none⟩ (.int .u8 (x : Int))
  have hg : r.v.ownBlock = some g := by rw [hv]; rfl
  refine ⟨?_, ?_, ?_⟩
  · rw [set_v rs i r _ hi, List.length_set]
    exact row_frm h.row hf (fun k hk (e : k = g) => h.ne r (List.mem_of_getElem? hi) g hg (by rw [← e]; exact hk))
  · intro q hq k hk
    obtain ⟨b, hb⟩ := mem_at hq
    rcases set_at hb with ⟨_, rfl⟩ | ⟨_, hb⟩
    · exact h.ne r (List.mem_of_getElem? hi) k hk
    · exact h.ne q (List.mem_of_getElem? hb) k hk
  · intro q hq
    obtain ⟨b, hb⟩ := mem_at hq
    rcases set_at hb with ⟨_, rfl⟩ | ⟨hne, hb⟩
    · have h1 := h.own r (List.mem_of_getElem? hi)
      show Own _ base r.v (r.l.set j x)
      rw [hv] at h1 ⊢
      exact h1.stored hn j x
    · exact (h.own q (List.mem_of_getElem? hb)).frm hf (fun k hk (e : k = g) => hp i b r q hne hi hb g hg (by rw [← e]; exact hk))
/-- What holds of a list that has grown in its place holds of its beginning. -/
theorem own_take {w : World} {base g n m c : Nat} {l l' : List Nat} (h : Own w base (.slice (some ⟨g, 0, none⟩) (n + m) c) (l ++ l')) (hn : l.length = n) : Own w base (.slice (some ⟨g, 0, none⟩) n c) l := by
  obtain ⟨h1, h2⟩ := h
  rcases h2 with ⟨e, _⟩ | ⟨g', cap, cur, e, hg, hh, hnc, hcm, hcs, htake⟩
  · cases e
  · simp only [Value.slice.injEq, Option.some.injEq, Addr.mk.injEq, and_true, true_and] at e
    obtain ⟨e1, e2, e3⟩ := e
    subst hn
    refine ⟨by rw [List.length_map, Nat.mul_one], .inr ⟨g', cap, cur, by rw [e1, e3], hg, hh, by omega, hcm, hcs, ?_⟩⟩
    have h3 := congrArg (List.take (l.length * 1)) htake
    rw [List.take_take, List.map_append, List.take_append_of_le_length (by simp), Nat.min_eq_left (by rw [List.length_append]; omega), List.take_of_length_le (l := l.map bv) (by simp)] at h3
    exact h3
end Go.Proofs.YtohoncgkekiihaaDoor
namespace Go.Proofs.YtohoncgkekiihaaDoor
open Go.RowKit FerryCrc
set_option linter.unusedVariables false
set_option linter.unusedSimpArgs false

/-- A list that is written just behind its end, where it has room. -/
theorem own_next {w : World} {base g n c : Nat} {l : List Nat} (h : Own w base (.slice (some ⟨g, 0, none⟩) n c) l) (hn : l.length = n) (hc : n + 1 ≤ c) (x : Nat) :
    Own (w.setCell ⟨g, n, none⟩ (.int .u8 (x : Int))) base (.slice (some ⟨g, 0, none⟩) (n + 1) c) (l ++ [x]) := by
  subst hn
  rcases h.2 with ⟨e, _⟩ | ⟨g', cap, cur, e, hg, hh, hnc, hcm, hcs, htake⟩
  · cases e
  · simp only [Value.slice.injEq, Option.some.injEq, Addr.mk.injEq, and_true, true_and] at e
    obtain ⟨rfl, rfl⟩ := e
    rw [Nat.mul_one] at hcs htake
    have hcl : cur.toList.length = c := by simpa using hcs
    have h1 : w.ownsRow base 5 1 (.slice (some ⟨g, 0, none⟩) (l.length + 1) c) (l.length + 1) (cur.toList.take (l.length + 1)) :=
      ⟨by rw [List.length_take, hcl]; omega, .inr ⟨g, c, cur, rfl, hg, hh, hc, hcm, by omega, by rw [Nat.mul_one]⟩⟩
    have h2 := (World.ownsRow.stored h1 l.length (bv x)).1
    have h3 : (cur.toList.take (l.length + 1)).set l.length (bv x) = (l ++ [x]).map bv := by
      rw [List.map_append, ← htake]
      refine List.ext_getElem? (fun j => ?_)
      rw [List.getElem?_set]
      split
      · rename_i e
        subst e
        have hll : (List.take l.length cur.toList).length = l.length := by rw [List.length_take, hcl]; omega
        rw [List.getElem?_append_right (by rw [hll]; exact Nat.le_refl _), hll, Nat.sub_self, if_pos (by rw [List.length_take, hcl]; omega)]
        rfl
      · rename_i e
        by_cases hj : j < l.length
        · rw [List.getElem?_append_left (by rw [List.length_take, hcl]; omega), List.getElem?_take_of_lt (by omega), List.getElem?_take_of_lt hj]
        · rw [List.getElem?_eq_none (by rw [List.length_take]; omega), List.getElem?_eq_none (by rw [List.length_append, List.length_take]; simp; omega)]
    rw [h3] at h2
    show World.ownsRow _ base 5 1 _ (l ++ [x]).length _
    rw [List.length_append]
    exact h2
/-- What such an append leaves: the list in its place, or in new memory. -/
def Grw (w w' : World) (v v' : Value) (x : Nat) : Prop :=
  (∃ g n c : Nat, v = .slice (some ⟨g, 0, none⟩) n c ∧ n + 1 ≤ c ∧ v' = .slice (some ⟨g, 0, none⟩) (n + 1) c ∧ w' = w.setCell ⟨g, n, none⟩ (.int .u8 (x : Int))) ∨
  (Below w.heap.size w w' ∧ ∀ k, v'.ownBlock = some k → w.heap.size ≤ k)
theorem append_bk {w : World} {ops : Array Oper} {rest : List Oper} {o : Oper} {act : Act} {Q : Exit → Act → World → Prop} (hgd : o.guard = none) (s x : Operand)
    (ho : o.op = .call { callee := .builtin .append, args := #[s, x], argTypes := #[23, 23] })
    (base : Nat) (v : Value) (l : List Nat) (hs : act.eval s = v) (hown : Own w base v l)
    (gx b : Nat) (hx : act.eval x = .slice (some ⟨gx, 0, none⟩) 1 1) (x0 : w.cell? ⟨gx, 0, none⟩ = some (.int .u8 (b : Int)))
    (h63 : l.length + 1 ≤ 140737488355328) (hbase : base ≤ w.heap.size)
    (h : ∀ v' w', Own w' base v' (l ++ [b]) → Grw w w' v v' b → wpList Tryd.prog ops Q rest (act.put o.dst v') w') : wpList Tryd.prog ops Q (o :: rest) act w := by
  obtain ⟨i, hi, hz, hsz, hby⟩ := info_parts info8
  have hnews : ∀ j u, ([.int .u8 (b : Int)] : List Value)[j]? = some u → w.cell? ((⟨gx, 0, none⟩ : Addr).add j) = some u := fun j u hu => by
    rw [add_none, Nat.zero_add]
    match j, hu with
    | 0, hu => simp only [List.getElem?_cons_zero, Option.some.injEq] at hu; rw [← hu]; exact x0
    | j + 1, hu => simp at hu
  have hone : ∀ u ∈ ([.int .u8 (b : Int)] : List Value), u.oneCell' = true := fun u hu => by rw [List.mem_singleton.1 hu]; rfl
  rcases hown.2 with ⟨e, hn⟩ | ⟨g, cap, cur, e, hg, hh, hnc, hcm, hcs, htake⟩
  · obtain rfl : l = [] := List.length_eq_zero_iff.1 hn
    subst e
    refine wpList_append_grows w hgd s x 23 ho 5 i _ 1 1 Tryd.underlying23 hi hz hsz hby rfl (by decide) none 0 0 [] hs (fun _ => ⟨rfl, rfl⟩) rfl (fun b e => by simp at e) ⟨gx, 0, none⟩ 1 1 [.int .u8 (b : Int)] hx rfl hnews hone (by omega) (by unfold maxLen; omega) (by omega) ?_
    intro v' w' k1 k2
    have hbl : Below w.heap.size w w' := (Below.refl _ _).grown k2 (Nat.le_refl _) (fun k hk => by simp at hk)
    exact h v' w' (ownsRow_weaken k1 hbase) (.inr ⟨hbl, fun k hk => (World.ownsRow.lt k1 k hk).1⟩)
  · subst e
    refine wpList_append_arg w hgd s x 23 ho 5 i _ 1 1 Tryd.underlying23 hi hz hsz hby rfl (by decide) g 0 l.length cap (l.map bv) hs (by simp) (fun j u hu => by
      have hj := (List.getElem?_eq_some_iff.1 hu).1
      rw [List.length_map] at hj
      have := World.ownsRow.cellAt hown j (by omega)
      rw [Nat.zero_add, this, hu]) ⟨gx, 0, none⟩ 1 1 [.int .u8 (b : Int)] hx rfl hnews hone (fun hr j hj => by
        obtain rfl : j = 0 := by have : j < 1 := hj; omega
        refine ⟨?_, World.ownsRow.frozenAt hown _⟩
        rw [cell_of_row w g _ cur _ _ hh]
        have : 0 + l.length * 1 + 0 < cur.size := by rw [hcs]; omega
        simp
        omega) (by unfold maxLen; omega) (by omega) ?_ ?_
    · intro hr
      have := own_next hown rfl hr b
      rw [Nat.zero_add, Nat.mul_one]
      exact h _ _ this (.inl ⟨g, l.length, cap, rfl, hr, rfl, rfl⟩)
    · intro hgr v' w' k1 k2
      have hbl : Below w.heap.size w w' := (Below.refl _ _).grown k2 (Nat.le_refl _) (fun k hk => by simp at hk)
      refine h v' w' ?_ (.inr ⟨hbl, fun k hk => (World.ownsRow.lt k1 k hk).1⟩)
      show World.ownsRow w' base 5 1 v' (l ++ [b]).length ((l ++ [b]).map bv)
      rw [List.length_append, List.map_append]
      exact ownsRow_weaken k1 hbase
/-- Another view of lists stays where such an append was made. -/
theorem own_grw {w w' : World} {base base' : Nat} {v v' u : Value} {x : Nat} {l l' : List Nat} (h : Own w base u l) (hv : Own w base' v l') (hg : Grw w w' v v' x) (hd : ∀ g n c m, u = .slice (some ⟨g, 0, none⟩) m c → v = .slice (some ⟨g, 0, none⟩) n c → m ≤ n) (hblk : ∀ g n c m c', u = .slice (some ⟨g, 0, none⟩) m c' → v = .slice (some ⟨g, 0, none⟩) n c → c' = c) : Own w' base u l := by
  rcases hg with ⟨g, n, c, rfl, hc, rfl, rfl⟩ | ⟨hb, _⟩
  · by_cases hu : u.ownBlock = some g
    · rcases h.2 with ⟨e, hn⟩ | ⟨g', cap, cur, e, hg', hh, hnc, hcm, hcs, htake⟩
      · rw [e] at hu; cases hu
      · rw [e] at hu
        have hu : some g' = some g := hu
        simp only [Option.some.injEq] at hu
        subst hu
        have e1 := hblk g' n c _ _ e rfl
        subst e1
        have hle := hd g' n cap _ e rfl
        subst e
        have h2 := (World.ownsRow.stored h n (.int .u8 (x : Int))).1
        rw [List.set_eq_of_length_le (by rw [List.length_map]; exact hle)] at h2
        exact h2
    · exact h.frm (frm_setCell w ⟨g, n, none⟩ (.int .u8 (x : Int))) (fun k hk (e : k = g) => hu (by rw [← e]; exact hk))
  · exact h.frm (S := fun _ => False) (Frm.ofBelow hb) (fun _ _ h => h)
end Go.Proofs.YtohoncgkekiihaaDoor
namespace Go.Proofs.YtohoncgkekiihaaDoor
open Go.RowKit FerryCrc
set_option linter.unusedVariables false
set_option linter.unusedSimpArgs false

theorem infoStr : ∃ i z, Tryd.prog.info? 9 = some i ∧ i.zero = some z ∧ i.size = 1 ∧ i.bytes = 16 ∧ z.cells.size = 1 := by
  have h : (Tryd.prog.info? 9).map (fun i => (i.size, i.bytes, i.zero.map (·.cells.size))) = some (1, 16, some 1) := by kernel_rfl
  cases hi : Tryd.prog.info? 9 with
  | none => simp [hi] at h
  | some i =>
    simp only [hi, Option.map_some, Option.some.injEq, Prod.mk.injEq] at h
    obtain ⟨h1, h2, h3⟩ := h
    cases hz : i.zero with
    | none => simp [hz] at h3
    | some z => exact ⟨i, z, rfl, hz, h1, h2, by simpa [hz] using h3⟩
/-- A list of texts of the call's own. -/
def StOwn (w : World) (base : Nat) (v : Value) (ss : List ByteArray) : Prop := w.ownsRow base 9 1 v ss.length (ss.map Value.string)
theorem st_nil (w : World) (base : Nat) : StOwn w base (.slice none 0 0) [] := ⟨rfl, .inl ⟨rfl, rfl⟩⟩
/-- append of one text to such a list. -/
theorem append_st {w : World} {ops : Array Oper} {rest : List Oper} {o : Oper} {act : Act} {Q : Exit → Act → World → Prop} (hgd : o.guard = none) (s x : Operand)
    (ho : o.op = .call { callee := .builtin .append, args := #[s, x], argTypes := #[105, 105] })
    (base : Nat) (v : Value) (ss : List ByteArray) (hs : act.eval s = v) (hown : StOwn w base v ss)
    (gx : Nat) (t : ByteArray) (hx : act.eval x = .slice (some ⟨gx, 0, none⟩) 1 1) (x0 : w.cell? ⟨gx, 0, none⟩ = some (.string t))
    (h63 : ss.length + 1 ≤ 4398046511104) (hbase : base ≤ w.heap.size)
    (h : ∀ v' w', StOwn w' base v' (ss ++ [t]) → Frm (fun k => v.ownBlock = some k) w w' → (∀ k, v'.ownBlock = some k → v.ownBlock = some k ∨ w.heap.size ≤ k) → wpList Tryd.prog ops Q rest (act.put o.dst v') w') : wpList Tryd.prog ops Q (o :: rest) act w := by
  obtain ⟨i, z, hi, hz, hsz, hby, hzs⟩ := infoStr
  refine wpList_append_lies w hgd s x 105 ho base 9 i z 1 16 Tryd.underlying105 hi hz hsz hby hzs (by decide) v ss.length (ss.map Value.string) hs hown ⟨gx, 0, none⟩ 1 1 [.string t] hx rfl ?_ ?_ (by decide) (by unfold maxLen; omega) (by omega) hbase _ rfl ?_
  · intro j u hu
    rw [add_none, Nat.zero_add]
    match j, hu with
    | 0, hu => simp only [List.getElem?_cons_zero, Option.some.injEq] at hu; rw [← hu]; exact x0
    | j + 1, hu => simp at hu
  · intro u hu
    rw [List.mem_singleton.1 hu]
    rfl
  · intro g cap w' h1 h2 h3 h4
    refine h _ w' ?_ (frm_grown h2) (fun k hk => ?_)
    · unfold StOwn
      rw [List.length_append, List.map_append]
      simpa using h1
    · have hk : some g = some k := hk
      simp only [Option.some.injEq] at hk
      subst hk
      rcases h3 with e | e
      · exact .inl e
      · exact .inr (by omega)
end Go.Proofs.YtohoncgkekiihaaDoor
namespace Go.Proofs.YtohoncgkekiihaaDoor
open Go.RowKit FerryCrc
set_option linter.unusedVariables false
set_option linter.unusedSimpArgs false

/-- The marks of the i-th list, of n bytes; what is appended to it. -/
def mkOf (i n : Nat) : List Nat := (List.range n).map (fun k => (i * 37 + k * 11 + 3) % 256)
def apOf (i : Nat) : List Nat := (List.range 16).map (fun k => (i * 17 + k + 130) % 256)
theorem mkOf_len (i n : Nat) : (mkOf i n).length = n := by simp [mkOf]
theorem mkOf_at {i n k : Nat} (h : k < n) : (mkOf i n)[k]? = some ((i * 37 + k * 11 + 3) % 256) := by simp [mkOf, h]
theorem mkOf_small (i n : Nat) : ∀ c ∈ mkOf i n, c < 256 := fun c hc => by
  obtain ⟨k, _, rfl⟩ := List.mem_map.1 hc
  exact Nat.mod_lt _ (by decide)
theorem apOf_len (i : Nat) : (apOf i).length = 16 := by simp [apOf]
theorem apOf_at {i k : Nat} (h : k < 16) : (apOf i)[k]? = some ((i * 17 + k + 130) % 256) := by simp [apOf, h]
theorem apOf_small (i : Nat) : ∀ c ∈ apOf i, c < 256 := fun c hc => by
  obtain ⟨k, _, rfl⟩ := List.mem_map.1 hc
  exact Nat.mod_lt _ (by decide)
/-- The same lists, those ahead of the i-th marked. -/
structure Mkd (rs rs' : List JW) (i : Nat) : Prop where
  len : rs'.length = rs.length
  each : ∀ (j : Nat) (r : JW), rs[j]? = some r → ∃ r', rs'[j]? = some r' ∧ r'.v = r.v ∧ r'.l.length = r.l.length ∧ (j < i → r'.l = mkOf j r.l.length)
theorem Mkd.refl (rs : List JW) : Mkd rs rs 0 := ⟨rfl, fun j r h => ⟨r, h, rfl, rfl, fun hj => by omega⟩⟩
theorem Mkd.pw {rs rs' : List JW} {i : Nat} (h : Mkd rs rs' i) (hp : Pw rs) : Pw rs' := by
  intro a b x y hab hx hy k hk
  obtain ⟨ra, h1⟩ : ∃ r, rs[a]? = some r := ⟨_, List.getElem?_eq_getElem (by rw [← h.len]; exact (List.getElem?_eq_some_iff.1 hx).1)⟩
  obtain ⟨rb, h2⟩ : ∃ r, rs[b]? = some r := ⟨_, List.getElem?_eq_getElem (by rw [← h.len]; exact (List.getElem?_eq_some_iff.1 hy).1)⟩
  obtain ⟨x', hx', ex, _⟩ := h.each a ra h1
  obtain ⟨y', hy', ey, _⟩ := h.each b rb h2
  rw [hx] at hx'
  rw [hy] at hy'
  obtain rfl := Option.some.inj hx'
  obtain rfl := Option.some.inj hy'
  rw [ey]
  rw [ex] at hk
  exact hp a b ra rb hab h1 h2 k hk
/-- One mark more. -/
theorem Mkd.put {rs rs' : List JW} {i : Nat} (h : Mkd rs rs' i) {r' : JW} (hr : rs'[i]? = some r') (l : List Nat) (hl : l.length = r'.l.length) : Mkd rs (rs'.set i (r'.wl l)) i := by
  refine ⟨by rw [List.length_set]; exact h.len, fun j r hj => ?_⟩
  obtain ⟨q, h1, h2, h3, h4⟩ := h.each j r hj
  by_cases e : i = j
  · subst e
    rw [hr] at h1
    obtain rfl := Option.some.inj h1
    refine ⟨r'.wl l, by rw [List.getElem?_set, if_pos rfl, if_pos (List.getElem?_eq_some_iff.1 hr).1], h2, hl.trans h3, fun hlt => absurd hlt (Nat.lt_irrefl _)⟩
  · exact ⟨q, by rw [List.getElem?_set, if_neg e]; exact h1, h2, h3, h4⟩
/-- A list that is marked. -/
theorem Mkd.next {rs rs' : List JW} {i : Nat} (h : Mkd rs rs' i) {r r' : JW} (hr0 : rs[i]? = some r) (hr : rs'[i]? = some r') (hm : r'.l = mkOf i r.l.length) : Mkd rs rs' (i + 1) := by
  refine ⟨h.len, fun j q hj => ?_⟩
  obtain ⟨q', h1, h2, h3, h4⟩ := h.each j q hj
  refine ⟨q', h1, h2, h3, fun hlt => ?_⟩
  by_cases e : j = i
  · subst e
    rw [hr] at h1
    obtain rfl := Option.some.inj h1
    rw [hr0] at hj
    obtain rfl := Option.some.inj hj
    exact hm
  · exact h4 (by omega)
/-- The marks so far, one more. -/
theorem mk_step {l : List Nat} {i n k : Nat} (hn : l.length = n) (hk : k < n) (h : l.take k = (mkOf i n).take k) : (l.set k ((i * 37 + k * 11 + 3) % 256)).take (k + 1) = (mkOf i n).take (k + 1) := by
  rw [List.take_add_one, List.take_add_one, mkOf_at hk, ← h, List.take_set_of_le (Nat.le_refl _), List.getElem?_set, if_pos rfl, if_pos (by omega)]
theorem Mkd.src {rs rs' : List JW} {i : Nat} (h : Mkd rs rs' i) {r' : JW} (hr : r' ∈ rs') : ∃ r ∈ rs, r'.v = r.v := by
  obtain ⟨j, hj⟩ := mem_at hr
  obtain ⟨r, h1⟩ : ∃ r, rs[j]? = some r := ⟨_, List.getElem?_eq_getElem (by rw [← h.len]; exact (List.getElem?_eq_some_iff.1 hj).1)⟩
  obtain ⟨q, h2, h3, _⟩ := h.each j r h1
  rw [hj] at h2
  obtain rfl := Option.some.inj h2
  exact ⟨r, List.mem_of_getElem? h1, h3⟩
/-- The lists stay where other blocks are written. -/
theorem DbOwn.frm2 {S : Nat → Prop} {w w' : World} {base : Nat} {v : Value} {rs : List JW} (h : DbOwn w base v rs) (hf : Frm S w w') (h1 : ∀ k, v.ownBlock = some k → ¬ S k) (h2 : ∀ r ∈ rs, ∀ k, r.v.ownBlock = some k → ¬ S k) : DbOwn w' base v rs :=
  ⟨row_frm h.row hf h1, h.ne, fun r hr => (h.own r hr).frm hf (h2 r hr)⟩
end Go.Proofs.YtohoncgkekiihaaDoor
namespace Go.Proofs.YtohoncgkekiihaaDoor
open Go.RowKit FerryCrc
set_option linter.unusedVariables false
set_option linter.unusedSimpArgs false

theorem grw_frm {w w' : World} {v v' : Value} {x : Nat} (h : Grw w w' v v' x) : Frm (fun k => v.ownBlock = some k) w w' := by
  rcases h with ⟨g, n, c, rfl, _, rfl, rfl⟩ | ⟨hb, _⟩
  · exact (frm_setCell w ⟨g, n, none⟩ (.int .u8 (x : Int))).mono (fun j _ (e : j = g) => by rw [e]; rfl)
  · exact Frm.ofBelow hb
/-- Where a list lies that has grown by s: in its list's place, or from block N on. -/
def Gro (N : Nat) (u v : Value) (s : Nat) : Prop := (∃ g m c : Nat, u = .slice (some ⟨g, 0, none⟩) m c ∧ v = .slice (some ⟨g, 0, none⟩) (m + s) c) ∨ (∀ b, v.ownBlock = some b → N ≤ b)
theorem Gro.start {w : World} {base N : Nat} {u : Value} {l : List Nat} (h : Own w base u l) : Gro N u u 0 := by
  rcases h.2 with ⟨e, _⟩ | ⟨g, cap, cur, e, _⟩
  · exact .inr (fun b hb => by rw [e] at hb; cases hb)
  · exact .inl ⟨g, _, cap, e, e⟩
theorem Gro.step {w w' : World} {N : Nat} {u v v' : Value} {s x : Nat} (h : Gro N u v s) (hg : Grw w w' v v' x) (hN : N ≤ w.heap.size) : Gro N u v' (s + 1) := by
  rcases hg with ⟨g, n, c, rfl, _, rfl, _⟩ | ⟨_, hb⟩
  · rcases h with ⟨g', m, c', e1, e2⟩ | h
    · simp only [Value.slice.injEq, Option.some.injEq, Addr.mk.injEq, and_true] at e2
      obtain ⟨rfl, rfl, rfl⟩ := e2
      exact .inl ⟨g, m, c, e1, rfl⟩
    · exact .inr (fun b hb => h b hb)
  · exact .inr (fun b hk => Nat.le_trans hN (hb b hk))
/-- The lists stay where one of them has grown. -/
theorem DbOwn.grw {w w' : World} {base N q s x : Nat} {V gv gv' : Value} {rs : List JW} {r : JW} {l' : List Nat} (h : DbOwn w base V rs) (hp : Pw rs) (hr : rs[q]? = some r) (hg : Grw w w' gv gv' x) (hgv : Own w base gv l') (hf : Gro N r.v gv s) (hN : ∀ p ∈ rs, ∀ b, p.v.ownBlock = some b → b < N) (hV : ∀ b, V.ownBlock = some b → b < N) : DbOwn w' base V rs := by
  have hfr := grw_frm hg
  have hmem := List.mem_of_getElem? hr
  refine ⟨row_frm h.row hfr (fun k hk e => ?_), h.ne, fun p hpm => ?_⟩
  · rcases hf with ⟨g, m, c, e1, e2⟩ | hf
    · rw [e2] at e
      exact h.ne r hmem k (by rw [e1]; exact e) hk
    · have := hf k e
      have := hV k hk
      omega
  · obtain ⟨j, hj⟩ := mem_at hpm
    by_cases ej : j = q
    · subst ej
      rw [hr] at hj
      obtain rfl := Option.some.inj hj
      refine own_grw (h.own r hpm) hgv hg (fun g n c m e1 e2 => ?_) (fun g n c m c' e1 e2 => ?_)
      · rcases hf with ⟨g', m', c'', f1, f2⟩ | hf
        · rw [f1] at e1
          rw [f2] at e2
          simp only [Value.slice.injEq] at e1 e2
          omega
        · have h1 := hf g (by rw [e2]; rfl)
          have h2 := hN r hpm g (by rw [e1]; rfl)
          omega
      · rcases hf with ⟨g', m', c'', f1, f2⟩ | hf
        · rw [f1] at e1
          rw [f2] at e2
          simp only [Value.slice.injEq] at e1 e2
          omega
        · have h1 := hf g (by rw [e2]; rfl)
          have h2 := hN r hpm g (by rw [e1]; rfl)
          omega
    · refine (h.own p hpm).frm hfr (fun k hk e => ?_)
      rcases hf with ⟨g, m, c, e1, e2⟩ | hf
      · rw [e2] at e
        exact hp q j r p (fun e => ej e.symm) hr hj k (by rw [e1]; exact e) hk
      · have h1 := hf k e
        have h2 := hN p hpm k hk
        omega
/-- The texts: one is put anew. -/
theorem StOwn.put {w : World} {base g n c : Nat} {ss : List ByteArray} (h : StOwn w base (.slice (some ⟨g, 0, none⟩) n c) ss) (hn : ss.length = n) (j : Nat) (t : ByteArray) : StOwn (w.setCell ⟨g, j, none⟩ (.string t)) base (.slice (some ⟨g, 0, none⟩) n c) (ss.set j t) := by
  subst hn
  unfold StOwn
  rw [List.length_set, List.map_set]
  exact (World.ownsRow.stored h j (.string t)).1
theorem StOwn.cell {w : World} {base g n c j : Nat} {ss : List ByteArray} {t : ByteArray} (h : StOwn w base (.slice (some ⟨g, 0, none⟩) n c) ss) (hn : ss.length = n) (hj : ss[j]? = some t) : w.cell? ⟨g, j, none⟩ = some (.string t) := by
  have hk := (List.getElem?_eq_some_iff.1 hj).1
  subst hn
  rw [World.ownsRow.cellAt h j (by omega), List.getElem?_map, hj]
  rfl
theorem str_app (a b : List Nat) : str a ++ str b = str (a ++ b) := by
  unfold str
  apply ByteArray.ext
  rw [ByteArray.data_append]
  simp
/-- append of one list to a list of lists of the call's own. -/
theorem append_db {w : World} {ops : Array Oper} {rest : List Oper} {o : Oper} {act : Act} {Q : Exit → Act → World → Prop} (hgd : o.guard = none) (s x : Operand)
    (ho : o.op = .call { callee := .builtin .append, args := #[s, x], argTypes := #[36, 36] })
    (base : Nat) (v : Value) (rs : List JW) (hs : act.eval s = v) (hown : DbOwn w base v rs)
    (gx : Nat) (r : JW) (hx : act.eval x = .slice (some ⟨gx, 0, none⟩) 1 1) (x0 : w.cell? ⟨gx, 0, none⟩ = some r.v)
    (hr : Own w base r.v r.l) (hn : ∀ k, r.v.ownBlock = some k → v.ownBlock ≠ some k) (h63 : rs.length + 1 ≤ 4398046511104) (hbase : base ≤ w.heap.size)
    (h : ∀ v' w', DbOwn w' base v' (rs ++ [r]) → Frm (fun k => v.ownBlock = some k) w w' → (∀ k, v'.ownBlock = some k → v.ownBlock = some k ∨ w.heap.size ≤ k) → wpList Tryd.prog ops Q rest (act.put o.dst v') w') : wpList Tryd.prog ops Q (o :: rest) act w := by
  obtain ⟨i, z, hi, hz, hsz, hby, hzs⟩ := infoBody
  refine wpList_append_lies w hgd s x 36 ho base 23 i z 1 24 Tryd.underlying36 hi hz hsz hby hzs (by decide) v rs.length (rs.map JW.v) hs hown.row ⟨gx, 0, none⟩ 1 1 [r.v] hx rfl ?_ ?_ (by decide) (by unfold maxLen; omega) (by omega) hbase _ rfl ?_
  · intro j u hu
    rw [add_none, Nat.zero_add]
    match j, hu with
    | 0, hu => simp only [List.getElem?_cons_zero, Option.some.injEq] at hu; rw [← hu]; exact x0
    | j + 1, hu => simp at hu
  · intro u hu
    rw [List.mem_singleton.1 hu]
    rfl
  · intro g cap w' h1 h2 h3 h4
    have hf := frm_grown h2
    refine h _ w' ⟨?_, ?_, ?_⟩ hf (fun k hk => by
      have hk : some g = some k := hk
      simp only [Option.some.injEq] at hk
      subst hk
      rcases h3 with e | e
      · exact .inl e
      · exact .inr (by omega))
    · rw [List.length_append, List.map_append]
      simpa using h1
    · intro q hq k hk e
      simp only [Value.ownBlock, Option.some.injEq] at e
      subst e
      rcases List.mem_append.1 hq with hq | hq
      · rcases h3 with h3 | h3
        · exact hown.ne q hq g hk h3
        · have := (World.ownsRow.lt (hown.own q hq) g hk).2
          omega
      · obtain rfl := List.mem_singleton.1 hq
        rcases h3 with h3 | h3
        · exact hn g hk h3
        · have := (World.ownsRow.lt hr g hk).2
          omega
    · intro q hq
      rcases List.mem_append.1 hq with hq | hq
      · exact (hown.own q hq).frm hf (fun k hk e => hown.ne q hq k hk e)
      · obtain rfl := List.mem_singleton.1 hq
        exact hr.frm hf (fun k hk e => hn k hk e)
end Go.Proofs.YtohoncgkekiihaaDoor
namespace Go.Proofs.YtohoncgkekiihaaDoor
open Go.RowKit FerryCrc
set_option linter.unusedVariables false
set_option linter.unusedSimpArgs false

/-- A list of lists of the call's own, as it is read: the cell of the k-th. -/
theorem DbOwn.cell {w : World} {base g n c k : Nat} {rs : List JW} {r : JW} (h : DbOwn w base (.slice (some ⟨g, 0, none⟩) n c) rs) (hn : rs.length = n) (hr : rs[k]? = some r) : w.cell? ⟨g, k, none⟩ = some (.slice r.a r.n r.c) := by
  have hk := (List.getElem?_eq_some_iff.1 hr).1
  subst hn
  have := World.ownsRow.cellAt h.row k (by omega)
  rw [this, List.getElem?_map, hr]
  rfl
theorem DbOwn.form {w : World} {base : Nat} {v : Value} {rs : List JW} (h : DbOwn w base v rs) (h0 : 0 < rs.length) : ∃ g c, v = .slice (some ⟨g, 0, none⟩) rs.length c := by
  rcases h.row.2 with ⟨_, e⟩ | ⟨g, cap, cur, e, _⟩
  · omega
  · exact ⟨g, cap, e⟩

theorem own_n {w : World} {base : Nat} {r : JW} {l : List Nat} (h : Own w base r.v l) : r.n = l.length := by
  rcases h.2 with ⟨e, hn⟩ | ⟨g, cap, cur, e, _⟩
  · have e : Value.slice r.a r.n r.c = .slice none 0 0 := e
    simp only [Value.slice.injEq] at e
    omega
  · have e : Value.slice r.a r.n r.c = .slice (some ⟨g, 0, none⟩) l.length cap := e
    simp only [Value.slice.injEq] at e
    exact e.2.1
theorem own_a {w : World} {base : Nat} {r : JW} {l : List Nat} (h : Own w base r.v l) (h0 : 0 < l.length) : ∃ g, r.a = some ⟨g, 0, none⟩ := by
  rcases h.2 with ⟨e, hn⟩ | ⟨g, cap, cur, e, _⟩
  · omega
  · have e : Value.slice r.a r.n r.c = .slice (some ⟨g, 0, none⟩) l.length cap := e
    simp only [Value.slice.injEq] at e
    exact ⟨g, e.1⟩

theorem str_take (a b : List Nat) : (str (a ++ b)).extract 0 a.length = str a := by
  rw [← str_app]
  have : (str a).size = a.length := str_size a
  rw [← this]
  apply ByteArray.ext
  simp

set_option maxRecDepth 100000 in
set_option maxHeartbeats 4000000 in
theorem apart_any (a : Option Addr) (n c base : Nat) (rs : List JW) (w : World) (h : DbOwn w base (.slice a n c) rs) (hn : rs.length = n) (hp : Pw rs) (hsz : ∀ r ∈ rs, r.l.length ≤ 4398046511000) (hlen : n ≤ 4398046511000) (hbw : base ≤ w.heap.size) :
    Calls Tryd.prog 23 #[.slice a n c] w fun e w' => e = .returned (.bool true) ∧ Below base w w' := by
  have HD := hide h
  have HN := hide hn
  have HP := hide hp
  have HSZ := hide hsz
  have HBK : Hid (∀ r ∈ rs, ∀ k, r.v.ownBlock = some k → base ≤ k ∧ k < w.heap.size) := fun r hr k hk => World.ownsRow.lt (h.own r hr) k hk
  have HVB : Hid (∀ k, (Value.slice a n c).ownBlock = some k → base ≤ k ∧ k < w.heap.size) := fun k hk => World.ownsRow.lt h.row k hk
  have HBB0 : Hid (base ≤ w.heap.size) := hbw
  clear hbw
  clear h hn hp hsz
  go_enter Tryd.func23, Tryd.ntmps23
  go_wp2_with fail
  go_loopw [3, 5] (fun vs i wr => ∃ (k : Nat) (rs' : List JW) (ss : List ByteArray), k ≤ n ∧ i = .int .i64 (k : Int) ∧ Hid (DbOwn wr base (.slice a n c) rs') ∧ Hid (Mkd rs rs' k) ∧ Hid (StOwn wr w.heap.size vs ss) ∧ Hid (ss.length = k ∧ ∀ (j : Nat) (r : JW), j < k → rs[j]? = some r → ss[j]? = some (str (mkOf j r.l.length))) ∧ Hid (w.heap.size ≤ wr.heap.size) ∧ Hid (Below base w wr)) (fun _ i _ => n - (intOf i).toNat)
  case atStart => exact ⟨0, rs, [], by omega, rfl, HD.out, Mkd.refl rs, st_nil _ _, ⟨rfl, fun j r hj => by omega⟩, Nat.le_refl _, Below.refl _ _⟩
  case round =>
    obtain ⟨k, rs', ss, hk, rfl, HD1, HM1, HS1, HSS, HW1, HB1⟩ := hrel
    by_cases hlt : k < n
    · obtain ⟨r, hr⟩ : ∃ r, rs[k]? = some r := ⟨_, List.getElem?_eq_getElem (by rw [HN.out]; exact hlt)⟩
      have HR := hide hr
      obtain ⟨m, hm⟩ : ∃ m, r.l.length = m := ⟨_, rfl⟩
      have hmb : m ≤ 4398046511000 := by rw [← hm]; exact HSZ.out r (List.mem_of_getElem? hr)
      have HMM := hide hm
      obtain ⟨gl, cl, hgl⟩ : ∃ gl cl, Value.slice a n c = .slice (some ⟨gl, 0, none⟩) n cl := by
        obtain ⟨gl, cl, e⟩ := HD.out.form (by rw [HN.out]; omega)
        rw [HN.out] at e
        exact ⟨gl, cl, e⟩
      simp only [Value.slice.injEq, true_and] at hgl
      obtain ⟨rfl, rfl⟩ := hgl
      have hrn : r.n = m := by rw [own_n (HD.out.own r (List.mem_of_getElem? hr)), hm]
      have HRN := hide hrn
      clear hr hm hrn
      go_wp2_with fail
      go_loopw [6] (fun i w2 => ∃ (q : Nat) (rs2 : List JW) (r2 : JW), q ≤ m ∧ i = .int .i64 (q : Int) ∧ Hid (DbOwn w2 base (.slice (some ⟨gl, 0, none⟩) n c) rs2) ∧ Hid (Mkd rs rs2 k) ∧ Hid (rs2[k]? = some r2 ∧ r2.v = r.v ∧ r2.l.length = m ∧ r2.l.take q = (mkOf k m).take q) ∧ Hid (StOwn w2 w.heap.size u3 ss) ∧ Hid (w.heap.size ≤ w2.heap.size) ∧ Hid (Below base w w2)) (fun i _ => m - (intOf i).toNat)
      case atStart =>
        obtain ⟨r2, e1, e2, e3, _⟩ := HM1.out.each k r HR.out
        exact ⟨0, rs', r2, by omega, rfl, HD1, HM1, ⟨e1, e2, e3.trans HMM.out, rfl⟩, HS1, HW1, HB1⟩
      case round =>
        obtain ⟨q, rs2, r2, hq, rfl, HD2, HM2, HR2, HS2, HW2, HB2⟩ := hrel
        have hr2 := HR2.out.1
        have hv2 := HR2.out.2.1
        have hl2 := HR2.out.2.2.1
        have ht2 := HR2.out.2.2.2
        have hlen2 : rs2.length = n := HM2.out.len.trans HN.out
        have c0 : wr.cell? ⟨gl, k, none⟩ = some (.slice r.a m r.c) := by
          have := HD2.out.cell hlen2 hr2
          rw [this, show Value.slice r2.a r2.n r2.c = Value.slice r.a r.n r.c from hv2, HRN.out]
        have HO2 := hide (HD2.out.own r2 (List.mem_of_getElem? hr2))
        by_cases hqm : q < m
        · obtain ⟨g, hg⟩ : ∃ g, r.a = some ⟨g, 0, none⟩ := by
            have h1 := HO2.out
            rw [hv2] at h1
            exact own_a h1 (by omega)
          have hvs : r2.v = .slice (some ⟨g, 0, none⟩) m r.c := by
            rw [hv2]
            show Value.slice r.a r.n r.c = _
            rw [hg, HRN.out]
          have ho := HO2.out
          rw [hvs] at ho
          obtain ⟨y, hy⟩ : ∃ y, r2.l[q]? = some y := ⟨_, List.getElem?_eq_getElem (by omega)⟩
          have c1 := ho.cellAt hl2 q y hy
          have f1 := ho.frozenAt hl2 q
          rw [hg] at c0
          obtain ⟨A, hA⟩ : ∃ A, k * 37 = A := ⟨_, rfl⟩
          obtain ⟨Bq, hB⟩ : ∃ Bq, q * 11 = Bq := ⟨_, rfl⟩
          obtain ⟨C, hC⟩ : ∃ C, A + Bq = C := ⟨_, rfl⟩
          obtain ⟨D, hD⟩ : ∃ D, C + 3 = D := ⟨_, rfl⟩
          have e1 : (k : Int) * 37 = (A : Int) := by omega
          have e1w : IntKind.i64.wrap (A : Int) = (A : Int) := by rw [IntKind.wrap_i64]; omega
          have e2 : (q : Int) * 11 = (Bq : Int) := by omega
          have e2w : IntKind.i64.wrap (Bq : Int) = (Bq : Int) := by rw [IntKind.wrap_i64]; omega
          have e3 : (A : Int) + (Bq : Int) = (C : Int) := by omega
          have e3w : IntKind.i64.wrap (C : Int) = (C : Int) := by rw [IntKind.wrap_i64]; omega
          have e4 : (C : Int) + 3 = (D : Int) := by omega
          have e4w : IntKind.i64.wrap (D : Int) = (D : Int) := by rw [IntKind.wrap_i64]; omega
          have e5 : IntKind.u8.wrap (D : Int) = (((k * 37 + q * 11 + 3) % 256 : Nat) : Int) := by rw [IntKind.wrap_u8]; omega
          obtain ⟨x, hx⟩ : ∃ x, (k * 37 + q * 11 + 3) % 256 = x := ⟨_, rfl⟩
          rw [hx] at e5
          have HDP := hide (HD2.out.put (HM2.out.pw HP.out) hr2 hvs hl2 q x)
          have HMP := hide (HM2.out.put hr2 (r2.l.set q x) (by rw [List.length_set]))
          have HRP : Hid ((rs2.set k (r2.wl (r2.l.set q x)))[k]? = some (r2.wl (r2.l.set q x)) ∧ (r2.wl (r2.l.set q x)).v = r.v ∧ (r2.wl (r2.l.set q x)).l.length = m ∧ (r2.wl (r2.l.set q x)).l.take (q + 1) = (mkOf k m).take (q + 1)) := by
            refine ⟨by rw [List.getElem?_set, if_pos rfl, if_pos (List.getElem?_eq_some_iff.1 hr2).1], hv2, by show (r2.l.set q x).length = m; rw [List.length_set]; exact hl2, ?_⟩
            show (r2.l.set q x).take (q + 1) = _
            rw [← hx]
            exact mk_step hl2 hqm ht2
          have hgb := HBK.out r (List.mem_of_getElem? HR.out) g (by show (Value.slice r.a r.n r.c).ownBlock = some g; rw [hg]; rfl)
          have HSP : Hid (StOwn (wr.setCell ⟨g, q, none⟩ (.int .u8 (x : Int))) w.heap.size u3 ss) := row_frm HS2.out (frm_setCell wr ⟨g, q, none⟩ (.int .u8 (x : Int))) (fun j hj (e : j = g) => by have := (World.ownsRow.lt HS2.out j hj).1; omega)
          have HBP : Hid (Below base w (wr.setCell ⟨g, q, none⟩ (.int .u8 (x : Int)))) := HB2.out.setCell (p := ⟨g, q, none⟩) hgb.1 _
          have HWP : Hid (w.heap.size ≤ (wr.setCell ⟨g, q, none⟩ (.int .u8 (x : Int))).heap.size) := Nat.le_trans HW2.out (frm_setCell wr ⟨g, q, none⟩ (.int .u8 (x : Int))).size
          clear ho hy hr2 hv2 hl2 ht2 hlen2 hvs hA hB hC hD hx hgb
          go_wp2
          exact ⟨⟨q + 1, _, _, by omega, by first | rfl | simp, HDP, HMP, HRP, HSP, HWP, HBP⟩, by simp [intOf]; omega⟩
        · obtain rfl : q = m := by omega
          have hfull : r2.l = mkOf k q := by
            have h1 := ht2
            rw [List.take_of_length_le (by omega), List.take_of_length_le (by rw [mkOf_len]; exact Nat.le_refl _)] at h1
            exact h1
          have HNX := hide (HM2.out.next HR.out hr2 (by rw [HMM.out]; exact hfull))
          obtain ⟨ax, cx, ex, hbx⟩ := HO2.out.shown (by omega) (by rw [hfull]; exact mkOf_small k q)
          have s1 := bts_string hbx
          rw [← ex, show r2.v = Value.slice r.a r.n r.c from hv2, HRN.out, hfull] at s1
          have HSA : Hid (StOwn (wr.alloc (.cells #[.string (str (mkOf k q))] 9)) w.heap.size u3 ss) := row_frm HS2.out (Frm.ofBelow (S := fun _ => False) ((Below.refl _ _).alloc (Nat.le_refl _) _)) (fun _ _ h => h)
          have HX0 : Hid ((wr.alloc (.cells #[.string (str (mkOf k q))] 9)).cell? ⟨wr.heap.size, 0, none⟩ = some (.string (str (mkOf k q)))) := (World.cell?_alloc_at _ _ _ _ rfl).trans rfl
          have HA2 : Hid (Below wr.heap.size wr (wr.alloc (.cells #[.string (str (mkOf k q))] 9))) := (Below.refl _ _).alloc (Nat.le_refl _) _
          have HSL : Hid (ss.length + 1 ≤ 4398046511104) := by unfold Hid; have := HSS.out.1; omega
          have HSS2 : Hid ((ss ++ [str (mkOf k q)]).length = k + 1 ∧ ∀ (j : Nat) (p : JW), j < k + 1 → rs[j]? = some p → (ss ++ [str (mkOf k q)])[j]? = some (str (mkOf j p.l.length))) := by
            refine ⟨by rw [List.length_append, HSS.out.1]; rfl, fun j p hj hp => ?_⟩
            by_cases e : j < k
            · rw [List.getElem?_append_left (by rw [HSS.out.1]; exact e)]
              exact HSS.out.2 j p e hp
            · obtain rfl : j = k := by omega
              rw [HR.out] at hp
              obtain rfl := Option.some.inj hp
              rw [List.getElem?_append_right (by rw [HSS.out.1]; exact Nat.le_refl _), HSS.out.1, Nat.sub_self, HMM.out]
              rfl
          clear hr2 hv2 hl2 ht2 hlen2 hbx ex hfull
          generalize str (mkOf k q) = Z at *
          go_wp2_with (refine append_st rfl (.tmp 39) (.tmp 45) rfl w.heap.size u3 ss rfl HSA.out wr.heap.size Z rfl HX0.out HSL.out (Nat.le_trans HW2.out HA2.out.size) ?_; intro v' w3 ho hf hq; have HO3 := hide ho; have HF3 := hide hf; clear ho hf hq)
          have HD3 := hide ((HD2.out.below HA2.out).frm2 HF3.out (fun b hb e => by have h1 := (World.ownsRow.lt HSA.out b e).1; have h2 := (HVB.out b hb).2; omega) (fun p hp b hb e => by
            obtain ⟨p0, hp0, ep⟩ := HM2.out.src hp
            rw [ep] at hb
            have h1 := (World.ownsRow.lt HSA.out b e).1
            have h2 := (HBK.out p0 hp0 b hb).2
            omega))
          have HBB : Hid (base ≤ w.heap.size) := by unfold Hid; have := (HVB.out gl rfl); omega
          have HB3 : Hid (Below base w w3) := (HB2.out.trans (HA2.out.mono (Nat.le_trans HBB.out HW2.out))).trans (HF3.out.below (Nat.le_trans HBB.out (Nat.le_trans HW2.out HA2.out.size)) (fun b e => by have h1 := (World.ownsRow.lt HSA.out b e).1; have := HBB.out; omega))
          exact ⟨⟨k + 1, rs2, ss ++ [Z], by omega, by first | rfl | simp, HD3, HNX, HO3, HSS2, Nat.le_trans HW2.out (Nat.le_trans HA2.out.size HF3.out.size), HB3⟩, by simp [intOf]; omega⟩
    · obtain rfl : k = n := by omega
      have HLN : Hid (rs'.length = k) := HM1.out.len.trans HN.out
      have HPW : Hid (Pw rs') := HM1.out.pw HP.out
      have HEA : Hid (∀ (j : Nat) (r1 : JW), rs'[j]? = some r1 → r1.l.length ≤ 4398046511000 ∧ (∀ x ∈ r1.l, x < 256) ∧ ss[j]? = some (str r1.l)) := fun j r1 hj => by
        have hjl : j < rs.length := by rw [← HM1.out.len]; exact (List.getElem?_eq_some_iff.1 hj).1
        obtain ⟨r, hr⟩ : ∃ r, rs[j]? = some r := ⟨_, List.getElem?_eq_getElem hjl⟩
        obtain ⟨q, h1, h2, h3, h4⟩ := HM1.out.each j r hr
        rw [hj] at h1
        obtain rfl := Option.some.inj h1
        have hjk : j < k := by rw [HN.out] at hjl; exact hjl
        have h5 := h4 hjk
        refine ⟨by rw [h3]; exact HSZ.out r (List.mem_of_getElem? hr), by rw [h5]; exact mkOf_small _ _, ?_⟩
        rw [HSS.out.2 j r hjk hr, ← h5]
      have HBK1 : Hid (∀ p ∈ rs', ∀ b, p.v.ownBlock = some b → base ≤ b ∧ b < w.heap.size) := fun p hp b hb => by
        obtain ⟨p0, hp0, e⟩ := HM1.out.src hp
        rw [e] at hb
        exact HBK.out p0 hp0 b hb
      have HSL : Hid (ss.length = k) := HSS.out.1
      obtain ⟨N1, hN1⟩ : ∃ N1, wr.heap.size = N1 := ⟨_, rfl⟩
      have HVS : Hid (∀ b, u3.ownBlock = some b → w.heap.size ≤ b ∧ b < N1) := fun b hb => by have := World.ownsRow.lt HS1.out b hb; omega
      have HWN : Hid (w.heap.size ≤ N1) := by unfold Hid; have := HW1.out; omega
      have HNW : Hid (wr.heap.size = N1) := hN1
      clear hN1 HSS HM1 HSZ HBK
      go_wp2_with fail
      go_loopw [4, 7] (fun vg i w2 => ∃ (q : Nat) (gs : List JW) (ts : List ByteArray), q ≤ k ∧ i = .int .i64 (q : Int) ∧ Hid (DbOwn w2 base (.slice a k c) rs') ∧ Hid (DbOwn w2 base vg gs) ∧ Hid (StOwn w2 w.heap.size u3 ts) ∧ Hid (gs.length = q ∧ ts.length = k) ∧ Hid (∀ (j : Nat) (g : JW), gs[j]? = some g → ∃ r1, rs'[j]? = some r1 ∧ g.l = r1.l ++ apOf j ∧ ∀ b, g.v.ownBlock = some b → r1.v.ownBlock = some b ∨ N1 ≤ b) ∧ Hid (∀ (j : Nat) (r1 : JW), rs'[j]? = some r1 → ts[j]? = some (str (if j < q then r1.l ++ apOf j else r1.l))) ∧ Hid (∀ b, vg.ownBlock = some b → N1 ≤ b) ∧ Hid (N1 ≤ w2.heap.size) ∧ Hid (Below base w w2)) (fun _ i _ => k - (intOf i).toNat)
      case atStart => exact ⟨0, [], ss, by omega, rfl, HD1, db_nil _ _, HS1, ⟨rfl, HSL.out⟩, fun j g hg => by simp at hg, fun j r1 hj => by rw [if_neg (by omega)]; exact (HEA.out j r1 hj).2.2, (fun b hb => by cases hb), (by have := HNW.out; show N1 ≤ _; omega), HB1⟩
      case round =>
        obtain ⟨q, gs, ts, hq, rfl, HD2, HG2, HT2, HL2, HE2, HX2, HVG, HW2, HB2⟩ := hrel
        by_cases hqk : q < k
        · obtain ⟨r1, hr1⟩ : ∃ r1, rs'[q]? = some r1 := ⟨_, List.getElem?_eq_getElem (by rw [HLN.out]; exact hqk)⟩
          have HR1 := hide hr1
          obtain ⟨gl, hgl⟩ : ∃ gl, a = some ⟨gl, 0, none⟩ := by
            obtain ⟨gl, cl, e⟩ := HD2.out.form (by rw [HLN.out]; omega)
            simp only [Value.slice.injEq] at e
            exact ⟨gl, e.1⟩
          subst hgl
          have c0 := HD2.out.cell HLN.out hr1
          obtain ⟨N2, hN2⟩ : ∃ N2, wr.heap.size = N2 := ⟨_, rfl⟩
          have HN2 : Hid (N1 ≤ N2) := by unfold Hid; have := HW2.out; omega
          have HN2b : Hid (wr.heap.size = N2) := hN2
          have HGB : Hid ((∀ b, u4.ownBlock = some b → N1 ≤ b ∧ b < N2) ∧ ∀ g ∈ gs, ∀ b, g.v.ownBlock = some b → b < N2 ∧ (N1 ≤ b ∨ ∃ j r2, j ≠ q ∧ rs'[j]? = some r2 ∧ r2.v.ownBlock = some b)) := by
            refine ⟨fun b hb => ⟨HVG.out b hb, by have := (World.ownsRow.lt HG2.out.row b hb).2; omega⟩, fun g hg b hb => ⟨by have := (World.ownsRow.lt (HG2.out.own g hg) b hb).2; omega, ?_⟩⟩
            obtain ⟨j, hj⟩ := mem_at hg
            obtain ⟨r2, h1, _, h3⟩ := HE2.out j g hj
            have hjq : j < q := by have := (List.getElem?_eq_some_iff.1 hj).1; have := HL2.out.1; omega
            rcases h3 b hb with e | e
            · exact .inr ⟨j, r2, by omega, h1, e⟩
            · exact .inl e
          have HX0 : Hid (ts.set q (str (r1.l ++ (apOf q).take 0)) = ts) := by
            unfold Hid
            have h1 := HX2.out q r1 hr1
            rw [if_neg (by omega)] at h1
            rw [List.take_zero, List.append_nil]
            refine List.ext_getElem? (fun j => ?_)
            rw [List.getElem?_set]
            split
            · rename_i e
              subst e
              rw [h1, if_pos (List.getElem?_eq_some_iff.1 h1).1]
            · rfl
          clear hr1 hN2
          go_wp2_with fail
          clear c0
          go_loopw [8, 9] (fun gv t w3 => ∃ (s : Nat) (ts2 : List ByteArray), s ≤ 16 ∧ t = .int .i64 (s : Int) ∧ Hid (DbOwn w3 base (.slice (some ⟨gl, 0, none⟩) k c) rs') ∧ Hid (DbOwn w3 base u4 gs) ∧ Hid (Own w3 base gv (r1.l ++ (apOf q).take s)) ∧ Hid (Gro N2 r1.v gv s) ∧ Hid (StOwn w3 w.heap.size u3 ts2) ∧ Hid (ts2 = ts.set q (str (r1.l ++ (apOf q).take s))) ∧ Hid (N2 ≤ w3.heap.size) ∧ Hid (Below base w w3)) (fun _ t _ => 16 - (intOf t).toNat)
          case atStart => exact ⟨0, ts, by omega, rfl, HD2, HG2, by have h1 := HD2.out.own r1 (List.mem_of_getElem? HR1.out); show Own _ _ _ _; rw [List.take_zero, List.append_nil]; exact h1, Gro.start (HD2.out.own r1 (List.mem_of_getElem? HR1.out)), HT2, HX0.out.symm, by have := HN2b.out; show N2 ≤ _; omega, HB2⟩
          case round =>
            obtain ⟨s, ts2, hs, rfl, HD3, HG3, HO3, HF3, HT3, HE3, HW3, HB3⟩ := hrel
            have HSM1 := hide (HEA.out q r1 HR1.out)
            have hml : (r1.l ++ (apOf q).take s).length ≤ 4398046511020 := by rw [List.length_append, List.length_take, apOf_len]; have := HSM1.out.1; omega
            by_cases hs16 : s < 16
            · have hs3 : (s : Int) < 16 := by omega
              obtain ⟨A, hA⟩ : ∃ A, q * 17 = A := ⟨_, rfl⟩
              obtain ⟨C, hC⟩ : ∃ C, A + s = C := ⟨_, rfl⟩
              obtain ⟨D, hD⟩ : ∃ D, C + 130 = D := ⟨_, rfl⟩
              have e1 : (q : Int) * 17 = (A : Int) := by omega
              have e1w : IntKind.i64.wrap (A : Int) = (A : Int) := by rw [IntKind.wrap_i64]; omega
              have e3 : (A : Int) + (s : Int) = (C : Int) := by omega
              have e3w : IntKind.i64.wrap (C : Int) = (C : Int) := by rw [IntKind.wrap_i64]; omega
              have e4 : (C : Int) + 130 = (D : Int) := by omega
              have e4w : IntKind.i64.wrap (D : Int) = (D : Int) := by rw [IntKind.wrap_i64]; omega
              have e5 : IntKind.u8.wrap (D : Int) = (((q * 17 + s + 130) % 256 : Nat) : Int) := by rw [IntKind.wrap_u8]; omega
              obtain ⟨x, hx⟩ : ∃ x, (q * 17 + s + 130) % 256 = x := ⟨_, rfl⟩
              rw [hx] at e5
              have HX8 : Hid (x < 256) := by unfold Hid; omega
              have HTK : Hid ((apOf q).take (s + 1) = (apOf q).take s ++ [x]) := by unfold Hid; rw [List.take_add_one, apOf_at hs16, hx]; rfl
              have HA3 : Hid (Below wr.heap.size wr (wr.alloc (.cells #[.int .u8 (x : Int)] 5))) := (Below.refl _ _).alloc (Nat.le_refl _) _
              have HOA := hide (HO3.out.below HA3.out)
              have HXC : Hid ((wr.alloc (.cells #[.int .u8 (x : Int)] 5)).cell? ⟨wr.heap.size, 0, none⟩ = some (.int .u8 (x : Int))) := (World.cell?_alloc_at _ _ _ _ rfl).trans rfl
              have HBB : Hid (base ≤ w.heap.size) := by unfold Hid; have := (HVB.out gl rfl); omega
              have HLL : Hid ((r1.l ++ (apOf q).take s).length + 1 ≤ 140737488355328) := by unfold Hid; omega
              have HBW : Hid (base ≤ (wr.alloc (.cells #[.int .u8 (x : Int)] 5)).heap.size) := by unfold Hid; have h1 := HA3.out.size; have h2 := HW3.out; have h3 := HN2.out; have h4 := HWN.out; have h5 := HBB.out; omega
              clear hA hC hD hx hml
              go_wp2_with (refine append_bk rfl (.tmp 61) (.tmp 68) rfl base u8 _ rfl HOA.out wr.heap.size x rfl HXC.out HLL.out HBW.out ?_; intro gv4 w4 ho4 hg4; have HO4 := hide ho4; have HG4 := hide hg4; clear ho4 hg4)
              have HGV : Hid (∀ b, u8.ownBlock = some b → base ≤ b ∧ (r1.v.ownBlock = some b ∨ N2 ≤ b)) := fun b hb => by
                refine ⟨(World.ownsRow.lt HO3.out b hb).1, ?_⟩
                rcases HF3.out with ⟨g, m, c', e1, e2⟩ | h
                · rw [e2] at hb
                  exact .inl (by rw [e1]; exact hb)
                · exact .inr (h b hb)
              have HR1B : Hid (∀ b, r1.v.ownBlock = some b → b < w.heap.size) := fun b hb => (HBK1.out r1 (List.mem_of_getElem? HR1.out) b hb).2
              have hNN : N2 ≤ (wr.alloc (.cells #[.int .u8 (x : Int)] 5)).heap.size := Nat.le_trans HW3.out HA3.out.size
              have HD4 := hide ((HD3.out.below HA3.out).grw HPW.out HR1.out HG4.out HOA.out HF3.out (fun p hp b hb => by have := (HBK1.out p hp b hb).2; have := HWN.out; have := HN2.out; omega) (fun b hb => by have := (HVB.out b hb).2; have := HWN.out; have := HN2.out; omega))
              have HS4 := hide ((HG3.out.below HA3.out).frm2 (grw_frm HG4.out) (fun b hb e => by
                obtain ⟨h1, h2⟩ := HGB.out.1 b hb
                rcases (HGV.out b e).2 with e2 | e2
                · have := HR1B.out b e2; have := HWN.out; omega
                · omega) (fun g hg b hb e => by
                obtain ⟨h1, h2⟩ := HGB.out.2 g hg b hb
                rcases (HGV.out b e).2 with e2 | e2
                · rcases h2 with h2 | ⟨j, r2, hjq, hj, hb2⟩
                  · have := HR1B.out b e2; have := HWN.out; omega
                  · exact HPW.out q j r1 r2 (fun e => hjq e.symm) HR1.out hj b e2 hb2
                · omega))
              have HT4 : Hid (StOwn w4 w.heap.size u3 ts2) := row_frm (row_frm HT3.out (Frm.ofBelow (S := fun _ => False) HA3.out) (fun _ _ h => h)) (grw_frm HG4.out) (fun b hb e => by
                obtain ⟨h1, h2⟩ := HVS.out b hb
                rcases (HGV.out b e).2 with e2 | e2
                · have := HR1B.out b e2; omega
                · have := HN2.out; omega)
              have HF4 := hide (HF3.out.step HG4.out hNN)
              have HB4 : Hid (Below base w w4) := (HB3.out.trans (HA3.out.mono (by have h2 := HW3.out; have h3 := HN2.out; have h4 := HWN.out; have h5 := HBB.out; omega))).trans ((grw_frm HG4.out).below HBW.out (fun b e => (HGV.out b e).1))
              have HW4 : Hid (N2 ≤ w4.heap.size) := Nat.le_trans hNN (grw_frm HG4.out).size
              have hts2 : ts2.length = k := by rw [HE3.out, List.length_set]; exact HL2.out.2
              obtain ⟨gS, cS, hu3⟩ : ∃ gS cS, u3 = .slice (some ⟨gS, 0, none⟩) k cS := by
                rcases HT4.out.2 with ⟨_, e⟩ | ⟨g, cap, cur, e, _⟩
                · omega
                · exact ⟨g, cap, by rw [e, hts2]⟩
              subst hu3
              obtain ⟨T, hT⟩ : ∃ T, str (r1.l ++ (apOf q).take s) = T := ⟨_, rfl⟩
              have htq : ts2[q]? = some T := by rw [HE3.out, List.getElem?_set, if_pos rfl, if_pos (by rw [HL2.out.2]; exact hqk), hT]
              have cT := HT4.out.cell hts2 htq
              have fT : w4.frozen? ⟨gS, q, none⟩ = false := by
                have h1 := HT4.out
                unfold StOwn at h1
                rw [hts2] at h1
                exact World.ownsRow.frozenAt h1 q
              have HA5 : Hid (Below w4.heap.size w4 ((w4.alloc (.cells #[.int .u8 (x : Int)] 5)).drew)) := ((Below.refl _ _).alloc (Nat.le_refl _) _).drew
              have s1 : (convert 23 9 (.slice (some ⟨w4.heap.size, 0, none⟩) 1 1)).run Tryd.prog ((w4.alloc (.cells #[.int .u8 (x : Int)] 5)).drew) = .ok (.string (str [x])) ((w4.alloc (.cells #[.int .u8 (x : Int)] 5)).drew) := bts_string (one_byteH w4 x HX8.out 5).drew
              have HT5 : Hid (StOwn ((w4.alloc (.cells #[.int .u8 (x : Int)] 5)).drew) w.heap.size (.slice (some ⟨gS, 0, none⟩) k cS) ts2) := row_frm HT4.out (Frm.ofBelow (S := fun _ => False) HA5.out) (fun _ _ h => h)
              have cT1 := HT5.out.cell hts2 htq
              have fT1 : ((w4.alloc (.cells #[.int .u8 (x : Int)] 5)).drew).frozen? ⟨gS, q, none⟩ = false := by
                have h1 := HT5.out
                unfold StOwn at h1
                rw [hts2] at h1
                exact World.ownsRow.frozenAt h1 q
              have hcat : ¬ 9223372036854775807 < T.size + (str [x]).size := by
                have h1 := HLL.out
                rw [← hT, str_size, str_size]
                show ¬ 9223372036854775807 < _ + 1
                omega
              have HCT : Hid (T ++ str [x] = str (r1.l ++ (apOf q).take (s + 1))) := by unfold Hid; rw [← hT, str_app, HTK.out, List.append_assoc]
              have HT6 := hide (HT5.out.put hts2 q (T ++ str [x]))
              have HE6 : Hid (ts2.set q (T ++ str [x]) = ts.set q (str (r1.l ++ (apOf q).take (s + 1)))) := by unfold Hid; rw [HCT.out, HE3.out, List.set_set]
              have hgS := HVS.out gS rfl
              have HO6 : Hid (Own w4 base gv4 (r1.l ++ (apOf q).take (s + 1))) := by unfold Hid; rw [HTK.out, ← List.append_assoc]; exact HO4.out
              clear htq hT
              go_region
              all_goals go_wp2
              all_goals
                have hf6 : Frm (fun b => b = gS) w4 (((w4.alloc (.cells #[.int .u8 (x : Int)] 5)).setCell ⟨gS, q, none⟩ (.string (T ++ str [x]))).drew) := ((Frm.ofBelow ((Below.refl _ _).alloc (Nat.le_refl _) _)).trans (frm_setCell _ ⟨gS, q, none⟩ (.string (T ++ str [x]))) (fun j _ t => t)).drew
                refine ⟨⟨s + 1, _, by omega, by first | rfl | simp, ?_, ?_, ?_, HF4, HT6, HE6, Nat.le_trans HW4.out hf6.size, ?_⟩, by simp [intOf]; omega⟩
                · exact HD4.out.frm2 hf6 (fun b hb (e : b = gS) => by have := (HVB.out b hb).2; omega) (fun p hp b hb (e : b = gS) => by have := (HBK1.out p hp b hb).2; omega)
                · refine HS4.out.frm2 hf6 (fun b hb (e : b = gS) => by have := (HGB.out.1 b hb).1; omega) (fun g hg b hb (e : b = gS) => ?_)
                  rcases (HGB.out.2 g hg b hb).2 with h2 | ⟨j, r2, _, hj, hb2⟩
                  · omega
                  · have := (HBK1.out r2 (List.mem_of_getElem? hj) b hb2).2
                    omega
                · refine HO6.out.frm hf6 (fun b hb (e : b = gS) => ?_)
                  rcases HF4.out with ⟨g, m, c', e1, e2⟩ | h
                  · rw [e2] at hb
                    have := HR1B.out b (by rw [e1]; exact hb)
                    omega
                  · have := h b hb
                    have := HN2.out
                    omega
                · exact HB4.out.trans (hf6.below (by have h2 := HW4.out; have h3 := HN2.out; have h4 := HWN.out; have h5 := HBB.out; omega) (fun b (e : b = gS) => by have := HBB.out; omega))
            · obtain rfl : s = 16 := by omega
              have e16 : (apOf q).take 16 = apOf q := List.take_of_length_le (by rw [apOf_len]; exact Nat.le_refl _)
              rw [e16] at HO3 HE3
              obtain ⟨ga, gn, gc, hgv⟩ := HO3.out.sl
              subst hgv
              have HA3 : Hid (Below wr.heap.size wr (wr.alloc (.cells #[.slice ga gn gc] 23))) := (Below.refl _ _).alloc (Nat.le_refl _) _
              have HX0c : Hid ((wr.alloc (.cells #[.slice ga gn gc] 23)).cell? ⟨wr.heap.size, 0, none⟩ = some (JW.v ⟨0, ga, gn, gc, r1.l ++ apOf q⟩)) := (World.cell?_alloc_at _ _ _ _ rfl).trans rfl
              have HGA := hide (HG3.out.below HA3.out)
              have HOA : Hid (Own (wr.alloc (.cells #[.slice ga gn gc] 23)) base (JW.v ⟨0, ga, gn, gc, r1.l ++ apOf q⟩) (r1.l ++ apOf q)) := HO3.out.below HA3.out
              have HBB : Hid (base ≤ w.heap.size) := by unfold Hid; have := (HVB.out gl rfl); omega
              have HGV : Hid (∀ b, (Value.slice ga gn gc).ownBlock = some b → r1.v.ownBlock = some b ∨ N2 ≤ b) := fun b hb => by
                rcases HF3.out with ⟨g, m, c', e1, e2⟩ | h
                · rw [e2] at hb
                  exact .inl (by rw [e1]; exact hb)
                · exact .inr (h b hb)
              have HR1B : Hid (∀ b, r1.v.ownBlock = some b → b < w.heap.size) := fun b hb => (HBK1.out r1 (List.mem_of_getElem? HR1.out) b hb).2
              have HNE : Hid (∀ b, (JW.v ⟨0, ga, gn, gc, r1.l ++ apOf q⟩).ownBlock = some b → u4.ownBlock ≠ some b) := fun b hb e => by
                obtain ⟨h1, h2⟩ := HGB.out.1 b e
                rcases HGV.out b hb with e2 | e2
                · have := HR1B.out b e2; have := HWN.out; omega
                · omega
              have HLL : Hid (gs.length + 1 ≤ 4398046511104) := by unfold Hid; have := HL2.out.1; omega
              have HBW : Hid (base ≤ (wr.alloc (.cells #[.slice ga gn gc] 23)).heap.size) := by unfold Hid; have h1 := HA3.out.size; have h2 := HW3.out; have h3 := HN2.out; have h4 := HWN.out; have h5 := HBB.out; omega
              clear e16 hml
              go_wp2_with (refine append_db rfl (.tmp 84) (.tmp 86) rfl base u4 gs rfl HGA.out wr.heap.size ⟨0, ga, gn, gc, r1.l ++ apOf q⟩ rfl HX0c.out HOA.out HNE.out HLL.out HBW.out ?_; intro v5 w5 ho5 hf5 hq5; have HG5 := hide ho5; have HF5 := hide hf5; have HQ5 := hide hq5; clear ho5 hf5 hq5)
              have hu4 : ∀ b, u4.ownBlock = some b → N1 ≤ b := fun b hb => (HGB.out.1 b hb).1
              have hfA := (Frm.ofBelow (S := fun b => u4.ownBlock = some b) HA3.out).trans HF5.out (fun j _ t => t)
              refine ⟨⟨q + 1, gs ++ [⟨0, ga, gn, gc, r1.l ++ apOf q⟩], ts2, by omega, by first | rfl | simp, ?_, HG5, ?_, ?_, ?_, ?_, ?_, ?_, ?_⟩, by simp [intOf]; omega⟩
              · exact HD3.out.frm2 hfA (fun b hb e => by have := (HVB.out b hb).2; have := hu4 b e; have := HWN.out; omega) (fun p hp b hb e => by have := (HBK1.out p hp b hb).2; have := hu4 b e; have := HWN.out; omega)
              · exact row_frm HT3.out hfA (fun b hb e => by have := (HVS.out b hb).2; have := hu4 b e; omega)
              · exact ⟨by rw [List.length_append, HL2.out.1]; rfl, by rw [HE3.out, List.length_set]; exact HL2.out.2⟩
              · intro j g hj
                by_cases e : j < q
                · rw [List.getElem?_append_left (by rw [HL2.out.1]; exact e)] at hj
                  exact HE2.out j g hj
                · have hjl := (List.getElem?_eq_some_iff.1 hj).1
                  rw [List.length_append, HL2.out.1] at hjl
                  obtain rfl : j = q := by simp at hjl; omega
                  rw [List.getElem?_append_right (by rw [HL2.out.1]; exact Nat.le_refl _), HL2.out.1, Nat.sub_self] at hj
                  obtain rfl := Option.some.inj hj
                  refine ⟨r1, HR1.out, rfl, fun b hb => ?_⟩
                  rcases HGV.out b hb with e2 | e2
                  · exact .inl e2
                  · exact .inr (Nat.le_trans HN2.out e2)
              · intro j r2 hj
                rw [HE3.out, List.getElem?_set]
                by_cases e : q = j
                · subst e
                  rw [HR1.out] at hj
                  obtain rfl := Option.some.inj hj
                  rw [if_pos rfl, if_pos (by rw [HL2.out.2]; exact hqk), if_pos (by omega)]
                · rw [if_neg e, HX2.out j r2 hj]
                  by_cases e2 : j < q
                  · rw [if_pos e2, if_pos (by omega)]
                  · rw [if_neg e2, if_neg (by omega)]
              · intro b hb
                rcases HQ5.out b hb with e | e
                · exact hu4 b e
                · have h1 := HA3.out.size; have h2 := HW3.out; have h3 := HN2.out; omega
              · have h1 := hfA.size; have h2 := HW3.out; have h3 := HN2.out; show N1 ≤ _; omega
              · exact HB3.out.trans (hfA.below (by have h2 := HW3.out; have h3 := HN2.out; have h4 := HWN.out; have h5 := HBB.out; omega) (fun b e => by have := hu4 b e; have := HWN.out; have := HBB.out; omega))
        · obtain rfl : q = k := by omega
          go_wp2_with fail
          go_loopw [10] (fun i w2 => ∃ j : Nat, j ≤ q ∧ i = .int .i64 (j : Int) ∧ Hid (Below wr.heap.size wr w2)) (fun i _ => q - (intOf i).toNat)
          case atStart => exact ⟨0, by omega, rfl, Below.refl _ _⟩
          case round =>
            obtain ⟨j, hj, rfl, HBJ⟩ := hrel
            by_cases hjk : j < q
            · obtain ⟨r1, hr1⟩ : ∃ r1, rs'[j]? = some r1 := ⟨_, List.getElem?_eq_getElem (by rw [HLN.out]; exact hjk)⟩
              obtain ⟨g1, hg1⟩ : ∃ g1, gs[j]? = some g1 := ⟨_, List.getElem?_eq_getElem (by rw [HL2.out.1]; exact hjk)⟩
              obtain ⟨r2, hr2, hgl2, _⟩ := HE2.out j g1 hg1
              rw [hr1] at hr2
              obtain rfl := Option.some.inj hr2
              have ht1 := HX2.out j r1 hr1
              rw [if_pos hjk] at ht1
              obtain ⟨hm1, hs1, _⟩ := HEA.out j r1 hr1
              obtain ⟨gl, hgl⟩ : ∃ gl, a = some ⟨gl, 0, none⟩ := by
                obtain ⟨gl, cl, e⟩ := HD2.out.form (by rw [HLN.out]; omega)
                simp only [Value.slice.injEq] at e
                exact ⟨gl, e.1⟩
              subst hgl
              obtain ⟨gG, cG, hu4⟩ : ∃ gG cG, u4 = .slice (some ⟨gG, 0, none⟩) q cG := by
                obtain ⟨gG, cG, e⟩ := HG2.out.form (by rw [HL2.out.1]; omega)
                rw [HL2.out.1] at e
                exact ⟨gG, cG, e⟩
              obtain ⟨gS, cS, hu3⟩ : ∃ gS cS, u3 = .slice (some ⟨gS, 0, none⟩) q cS := by
                rcases HT2.out.2 with ⟨_, e⟩ | ⟨g, cap, cur, e, _⟩
                · have := HL2.out.2; omega
                · exact ⟨g, cap, by rw [e, HL2.out.2]⟩
              subst hu4 hu3
              have c0 := cell_below (HD2.out.cell HLN.out hr1) HBJ.out
              have c1 := cell_below (HG2.out.cell HL2.out.1 hg1) HBJ.out
              have c2 := cell_below (HT2.out.cell HL2.out.2 ht1) HBJ.out
              have ho1 := (HD2.out.own r1 (List.mem_of_getElem? hr1))
              have ho2 := (HG2.out.own g1 (List.mem_of_getElem? hg1))
              have hn1 := own_n ho1
              have hsm2 : ∀ x ∈ r1.l ++ apOf j, x < 256 := fun x hx => by
                rcases List.mem_append.1 hx with h | h
                · exact hs1 x h
                · exact apOf_small j x h
              have hml2 : (r1.l ++ apOf j).length ≤ 140737488355328 := by rw [List.length_append, apOf_len]; omega
              obtain ⟨ax, cx, ex, hbx⟩ := ho1.shown (by omega) hs1
              rw [hgl2] at ho2
              obtain ⟨ay, cy, ey, hby⟩ := ho2.shown hml2 hsm2
              have s1 := bts_string ((hbx.below HBJ.out).below (Below.refl _ _).drew)
              have s2 := bts_string ((hby.below HBJ.out).below (Below.refl _ _).drew)
              rw [← ex, show r1.v = Value.slice r1.a r1.n r1.c from rfl] at s1
              rw [← ey, show g1.v = Value.slice g1.a g1.n g1.c from rfl] at s2
              have hsz : (str (r1.l ++ apOf j)).size = r1.n + 16 := by rw [str_size, List.length_append, apOf_len, hn1]
              have hcut : (str (r1.l ++ apOf j)).extract 0 r1.n = str r1.l := by rw [hn1]; exact str_take _ _
              have hdec : r1.n ≤ r1.n + 16 := by omega
              obtain ⟨m, hm⟩ : ∃ m, r1.n = m := ⟨_, rfl⟩
              rw [hm] at c0 s1 hsz hcut hn1
              have hmb : m ≤ 4398046511000 := by omega
              clear hbx hby ex ey ho1 ho2 hr1 hg1 ht1 hm1 hs1 hsm2 hml2 hgl2 hn1 hm hdec
              generalize str (r1.l ++ apOf j) = T at *
              generalize str r1.l = Z at *
              have b1 : (m : Int) ≤ (T.size : Int) := by omega
              have b2 : m ≤ T.size := by omega
              have b3 : (0 : Int) ≤ (m : Int) := by omega
              clear hsz
              go_wp2_with fail
              go_region_held3 (fun wz => wz.cell? ⟨gl, j, none⟩ = some (.slice r1.a m r1.c) ∧ wz.cell? ⟨gG, j, none⟩ = some (.slice g1.a g1.n g1.c) ∧ wz.cell? ⟨gS, j, none⟩ = some (.string T) ∧ (convert 23 9 (.slice r1.a m r1.c)).run Tryd.prog wz = .ok (.string Z) wz ∧ (convert 23 9 (.slice g1.a g1.n g1.c)).run Tryd.prog wz = .ok (.string T) wz) (exact ⟨c0, c1, c2, s1, s2⟩) (first | fail)
              go_wp2
              exact ⟨⟨j + 1, by omega, by first | rfl | simp, HBJ.out.drew⟩, by simp [intOf]; omega⟩
            · have HZZ := hide (HB2.out.trans (HBJ.out.mono (by have h2 := HW2.out; have h4 := HWN.out; have h5 := HBB0.out; omega)))
              go_wp2
              go_ret
              exact ⟨rfl, HZZ.out⟩
end Go.Proofs.YtohoncgkekiihaaDoor
namespace Go.Proofs.YtohoncgkekiihaaDoor
open Go.RowKit FerryCrc
set_option linter.unusedVariables false
set_option linter.unusedSimpArgs false

/-- make of an empty list with room. -/
theorem made (w : World) (n : Nat) (C : Int) (hC : C = (n : Int)) (hn : n ≤ 140737488355328) : ∃ w', (Instr.makeSlice 23 (.int .i64 0) (.int .i64 C)).run Tryd.prog w = .ok (.slice (some ⟨w.heap.size, 0, none⟩) 0 n) w' ∧ Own w' w.heap.size (.slice (some ⟨w.heap.size, 0, none⟩) 0 n) [] ∧ Below w.heap.size w w' := by
  obtain ⟨i0, hi, hz0, hz1, hz2⟩ := info_parts info8
  obtain ⟨w', hrun, r1, r2⟩ := run_make_own (P := Tryd.prog) w w.heap.size 23 5 i0 (.int .u8 0) 1 Tryd.underlying23 hi hz0 hz1 .i64 .i64 n (by rw [hz2]; omega) (by unfold maxLen; omega) (Nat.le_refl _)
  subst hC
  exact ⟨w', hrun, r1, (Below.refl _ _).grown r2 (Nat.le_refl _) (by intro k e; cases e)⟩
theorem nope1 {p b off : Nat} (e : some (⟨p, 0, none⟩ : Addr) = some ⟨b, off, none⟩) (h : b < p) : False := by
  simp only [Option.some.injEq, Addr.mk.injEq, and_true] at e
  omega
theorem nope2 {p b off : Nat} (e : some (⟨p, 0, none⟩ : Addr) = some ⟨b, off, none⟩) (h : p + 1 ≤ b) : False := by
  simp only [Option.some.injEq, Addr.mk.injEq, and_true] at e
  omega
theorem own_base {w : World} {base g n c : Nat} {l : List Nat} (h : Own w base (.slice (some ⟨g, 0, none⟩) n c) l) : base ≤ w.heap.size := by
  have := World.ownsRow.lt h g rfl
  omega
theorem iv_base {w : World} {base g n c : Nat} {l : List Int} (h : IvOwn w base (.slice (some ⟨g, 0, none⟩) n c) l) : base ≤ w.heap.size := by
  have := World.ownsRow.lt h g rfl
  omega
theorem madeI (w : World) (n : Nat) (C : Int) (hC : C = (n : Int)) (hn : n ≤ 4398046511104) : ∃ w', (Instr.makeSlice 24 (.int .i64 0) (.int .i64 C)).run Tryd.prog w = .ok (.slice (some ⟨w.heap.size, 0, none⟩) 0 n) w' ∧ IvOwn w' w.heap.size (.slice (some ⟨w.heap.size, 0, none⟩) 0 n) [] ∧ Below w.heap.size w w' := by
  obtain ⟨i0, z, hi, hz, hsz, hby, hzs⟩ := infoInt
  obtain ⟨w', hrun, r1, r2⟩ := run_make_own (P := Tryd.prog) w w.heap.size 24 3 i0 z 1 Tryd.underlying24 hi hz hsz .i64 .i64 n (by rw [hby]; omega) (by unfold maxLen; omega) (Nat.le_refl _)
  subst hC
  exact ⟨w', hrun, r1, (Below.refl _ _).grown r2 (Nat.le_refl _) (by intro k e; cases e)⟩
theorem iv_wk {w : World} {base base' : Nat} {v : Value} {L : List Int} (h : IvOwn w base v L) (hb : base' ≤ base) : IvOwn w base' v L := ownsRow_weaken h hb
theorem iv_some {w : World} {base n : Nat} {v : Value} {l : List Int} (h : IvOwn w base v l) (hl : l.length = n) (h0 : 0 < n) : ∃ g c, v = .slice (some ⟨g, 0, none⟩) n c ∧ base ≤ g ∧ n ≤ c := by
  subst hl
  rcases h.2 with ⟨e, hn⟩ | ⟨g, cap, cur, e, hg, _, hnc, _⟩
  · have : l.length = 0 := hn
    omega
  · exact ⟨g, cap, e, hg, hnc⟩
theorem Rcs.frm {α : Type} {f : α → List Value} {sz : Nat} {S : Nat → Prop} {w w' : World} {a : Option Addr} {len cap : Nat} {l : List α} (h : Rcs f sz w a len cap l) (hf : Frm S w w') (hn : ∀ b off, a = some ⟨b, off, none⟩ → ¬ S b) : Rcs f sz w' a len cap l :=
  ⟨h.size, h.row.size, h.row.fit, h.row.null, fun j v hv => by
    obtain ⟨b, off, e, hc⟩ := h.row.cell j v hv
    exact ⟨b, off, e, hf.cell hc (hn b off e)⟩⟩
/-- append of numbers to a list of the call's own, as a step. -/
theorem step_iva {w : World} {ops : Array Oper} {o : Oper} {act : Act} {K : Act → World → Prop} {Q : Exit → Act → World → Prop} {EE : Prop} (hgd : o.guard = none) (s x : Operand)
    (ho : o.op = .call { callee := .builtin .append, args := #[s, x], argTypes := #[24, 24] })
    (base : Nat) (v : Value) (xs : List Int) (hs : act.eval s = v) (hown : IvOwn w base v xs)
    (a : Option Addr) (m c : Nat) (ts : List Int) (hx : act.eval x = .slice a m c) (hb : Rcs (fun t : Int => [.int .i64 t]) 1 w a m c ts)
    (h63 : xs.length + m ≤ 4398046511104) (hbase : base ≤ w.heap.size)
    (h : ∀ v' w', IvOwn w' base v' (xs ++ ts) → Frm (fun k => v.ownBlock = some k) w w' → K (act.put o.dst v') w') :
    if Region.wanted o (yielded ops act.tmps) = true then Oper.wp Tryd.prog o act w K Q else EE := by
  obtain ⟨i, z, hi, hz, hsz, hby, hzs⟩ := infoInt
  by_cases hm : m = 0
  · subst hm
    obtain rfl : ts = [] := List.length_eq_zero_iff.1 hb.size
    have hw : Region.wanted o (yielded ops act.tmps) = true := by simp [Region.wanted, hgd]
    rw [if_pos hw]
    have hst := hown
    rcases hown.2 with ⟨e, hn⟩ | ⟨g, cap, cur, e, hg, hh, hnc, _⟩
    · have hrun := run_append_empty (P := Tryd.prog) w 24 o.type 3 i Tryd.underlying24 hi none a 0 0 c (Nat.le_refl _)
      have hK := h v w (by rw [List.append_nil]; exact hst) (Frm.refl _ _)
      rw [e] at hs hK
      unfold Oper.wp
      simp [execOp, ho, resolve, invoke, builtin, hs, hx, hrun, Result.andThen]
      exact hK
    · have hrun := run_append_empty (P := Tryd.prog) w 24 o.type 3 i Tryd.underlying24 hi (some ⟨g, 0, none⟩) a xs.length cap c hnc
      have hK := h v w (by rw [List.append_nil]; exact hst) (Frm.refl _ _)
      rw [e] at hs hK
      unfold Oper.wp
      simp [execOp, ho, resolve, invoke, builtin, hs, hx, hrun, Result.andThen]
      exact hK
  · match a, hx, hb with
    | none, hx, hb => exact absurd (hb.row.null rfl).1 hm
    | some ad, hx, hb =>
      refine step_append_lies w hgd s x 24 ho base 3 i z 1 8 Tryd.underlying24 hi hz hsz hby hzs (by decide) v xs.length (xs.map (Value.int .i64 ·)) hs hown ad m c (ts.map (Value.int .i64 ·)) hx (by rw [List.length_map, hb.size]; omega) ?_ ?_ (by omega) (by unfold maxLen; omega) (by omega) hbase _ rfl ?_
      · intro j u hu
        rw [← flat_iv] at hu
        obtain ⟨b, off, e, hc⟩ := hb.row.cell j u hu
        simp only [Option.some.injEq] at e
        subst e
        rw [add_none]
        exact hc
      · intro u hu
        obtain ⟨t, _, rfl⟩ := List.mem_map.1 hu
        rfl
      · intro g' cap w' h1 h2 h3 h4
        refine h _ w' ?_ (frm_grown h2)
        unfold IvOwn
        rw [List.length_append, List.map_append, hb.size]
        exact h1
/-- One number in a block of its own. -/
theorem one_iv (w : World) (t : Int) : Rcs (fun t : Int => [.int .i64 t]) 1 (w.alloc (.cells #[.int .i64 t] 3)) (some ⟨w.heap.size, 0, none⟩) 1 1 [t] := by
  refine ⟨rfl, rfl, by decide, fun e => by simp at e, fun j v hv => ⟨_, _, rfl, ?_⟩⟩
  match j, hv with
  | 0, hv =>
    simp at hv
    rw [← hv]
    exact (World.cell?_alloc_at _ _ _ _ rfl).trans rfl
  | j + 1, hv => simp at hv
/-- Two lists in a block of their own. -/
theorem two_lists (w : World) (r1 r2 : JW) (t : TypeId) : Rcs (fun r : JW => [r.v]) 1 (w.alloc (.cells #[r1.v, r2.v] t)) (some ⟨w.heap.size, 0, none⟩) 2 2 [r1, r2] := by
  refine ⟨rfl, rfl, by decide, fun e => by simp at e, fun j v hv => ⟨_, _, rfl, ?_⟩⟩
  match j, hv with
  | 0, hv =>
    simp at hv
    rw [← hv]
    exact (World.cell?_alloc_at _ _ _ _ rfl).trans rfl
  | 1, hv =>
    simp at hv
    rw [← hv]
    exact (World.cell?_alloc_at _ _ _ _ rfl).trans rfl
  | j + 2, hv => simp at hv
/-- append of lists to a list of lists of the call's own. -/
theorem append_dbs {w : World} {ops : Array Oper} {rest : List Oper} {o : Oper} {act : Act} {Q : Exit → Act → World → Prop} (hgd : o.guard = none) (s x : Operand)
    (ho : o.op = .call { callee := .builtin .append, args := #[s, x], argTypes := #[36, 36] })
    (base : Nat) (v : Value) (rs : List JW) (hs : act.eval s = v) (hown : DbOwn w base v rs)
    (a : Option Addr) (m c : Nat) (news : List JW) (hx : act.eval x = .slice a m c) (hb : Rcs (fun r : JW => [r.v]) 1 w a m c news)
    (hr : ∀ r ∈ news, Own w base r.v r.l) (hn : ∀ r ∈ news, ∀ k, r.v.ownBlock = some k → v.ownBlock ≠ some k) (h63 : rs.length + m ≤ 4398046511104) (hbase : base ≤ w.heap.size)
    (h : ∀ v' w', DbOwn w' base v' (rs ++ news) → Frm (fun k => v.ownBlock = some k) w w' → (∀ k, v'.ownBlock = some k → v.ownBlock = some k ∨ w.heap.size ≤ k) → wpList Tryd.prog ops Q rest (act.put o.dst v') w') : wpList Tryd.prog ops Q (o :: rest) act w := by
  obtain ⟨i, z, hi, hz, hsz, hby, hzs⟩ := infoBody
  by_cases hm : m = 0
  · subst hm
    obtain rfl : news = [] := List.length_eq_zero_iff.1 hb.size
    have hst := hown
    rcases hown.row.2 with ⟨e, hn⟩ | ⟨g, cap, cur, e, hg, hh, hnc, _⟩
    · refine wpList_append_empty hgd s x 36 ho 23 i Tryd.underlying36 hi none a 0 0 c (Nat.le_refl _) (by rw [hs, e]) hx ?_
      exact h _ w (by rw [List.append_nil, ← e]; exact hst) (Frm.refl _ _) (fun k hk => by simp [Value.ownBlock] at hk)
    · refine wpList_append_empty hgd s x 36 ho 23 i Tryd.underlying36 hi (some ⟨g, 0, none⟩) a rs.length cap c hnc (by rw [hs, e]) hx ?_
      exact h _ w (by rw [List.append_nil, ← e]; exact hst) (Frm.refl _ _) (fun k hk => .inl (by rw [e]; exact hk))
  · match a, hx, hb with
    | none, hx, hb => exact absurd (hb.row.null rfl).1 hm
    | some ad, hx, hb =>
      refine wpList_append_lies w hgd s x 36 ho base 23 i z 1 24 Tryd.underlying36 hi hz hsz hby hzs (by decide) v rs.length (rs.map JW.v) hs hown.row ad m c (news.map JW.v) hx (by rw [List.length_map, hb.size]; omega) ?_ ?_ (by omega) (by unfold maxLen; omega) (by omega) hbase _ rfl ?_
      · intro j u hu
        rw [← flat_jv] at hu
        obtain ⟨b, off, e, hc⟩ := hb.row.cell j u hu
        simp only [Option.some.injEq] at e
        subst e
        rw [add_none]
        exact hc
      · intro u hu
        obtain ⟨t, _, rfl⟩ := List.mem_map.1 hu
        rfl
      · intro g cap w' h1 h2 h3 h4
        have hf := frm_grown h2
        refine h _ w' ⟨?_, ?_, ?_⟩ hf (fun k hk => by
          have hk : some g = some k := hk
          simp only [Option.some.injEq] at hk
          subst hk
          rcases h3 with e | e
          · exact .inl e
          · exact .inr (by omega))
        · rw [List.length_append, List.map_append, hb.size]
          exact h1
        · intro q hq k hk e
          simp only [Value.ownBlock, Option.some.injEq] at e
          subst e
          rcases List.mem_append.1 hq with hq | hq
          · rcases h3 with h3 | h3
            · exact hown.ne q hq g hk h3
            · have := (World.ownsRow.lt (hown.own q hq) g hk).2
              omega
          · rcases h3 with h3 | h3
            · exact hn q hq g hk h3
            · have := (World.ownsRow.lt (hr q hq) g hk).2
              omega
        · intro q hq
          rcases List.mem_append.1 hq with hq | hq
          · exact (hown.own q hq).frm hf (fun k hk e => hown.ne q hq k hk e)
          · exact (hr q hq).frm hf (fun k hk e => hn q hq k hk e)
/-- The bytes of a text, laid anew. -/
theorem conv_lay (w : World) (S : ByteArray) (n : Nat) (hn : S.size = n) (hm : n ≤ 140737488351232) : ∃ c w', (convert 9 23 (.string S)).run Tryd.prog w = .ok (.slice (some ⟨w.heap.size, 0, none⟩) n c) w' ∧ Bts w' (some ⟨w.heap.size, 0, none⟩) n c (bytesOf S) ∧ Below w.heap.size w w' := by
  subst hn
  refine ⟨_, _, run_bytes_of_string (P := Tryd.prog) w 9 23 5 S Tryd.underlying9 Tryd.underlying23 Tryd.underlying5, ?_, ?_⟩
  · refine Bts.below (w := w.alloc _) ?_ ((Below.refl _ _).drew)
    refine ⟨bytesOf_len S, by omega, grownCap_ge _ _ _ _, bytesOf_lt S, fun e => by simp at e, fun k hk => ⟨_, _, rfl, (S.data[k]'hk).toNat, ?_, ?_⟩⟩
    · unfold bytesOf
      rw [List.getElem?_map, Array.getElem?_toList, Array.getElem?_eq_getElem hk]
      rfl
    · rw [Nat.zero_add, cell_of_row _ _ k _ _ _ (heap_alloc_new _ _)]
      exact bytesRow_at S _ k hk
  · exact ((Below.refl _ _).alloc (Nat.le_refl _) _).drew
theorem RvOwn.frm2 {S : Nat → Prop} {w w' : World} {base : Nat} {v : Value} {rs : List RV} (h : RvOwn w base v rs) (hf : Frm S w w') (h1 : ∀ k, v.ownBlock = some k → ¬ S k) (h2 : ∀ r ∈ rs, ¬ S r.g) : RvOwn w' base v rs :=
  ⟨row_frm h.row hf h1, h.ne, fun r hr => (h.own r hr).frm hf (fun k hk e => h2 r hr (by have hk : some r.g = some k := hk; rw [Option.some.inj hk]; exact e)), h.nd⟩
theorem BvOwn.frm2 {S : Nat → Prop} {w w' : World} {base : Nat} {v : Value} {rs : List RV} (h : BvOwn w base v rs) (hf : Frm S w w') (h1 : ∀ k, v.ownBlock = some k → ¬ S k) (h2 : ∀ r ∈ rs, ¬ S r.g) : BvOwn w' base v rs :=
  ⟨row_frm h.row hf h1, h.ne, fun r hr => (h.own r hr).frm hf (fun k hk e => h2 r hr (by have hk : some r.g = some k := hk; rw [Option.some.inj hk]; exact e)), h.nd⟩
theorem iv_take {w : World} {base g n c : Nat} {ts : List Int} {x : Int} (h : IvOwn w base (.slice (some ⟨g, 0, none⟩) (n + 1) c) (ts ++ [x])) (hn : ts.length = n) : Rcs (fun t : Int => [.int .i64 t]) 1 w (some ⟨g, 0, none⟩) n c ts := by
  subst hn
  rcases h.2 with ⟨e, _⟩ | ⟨g', cap, cur, e, hg, hh, hnc, hcm, hcs, htake⟩
  · cases e
  · simp only [Value.slice.injEq, Option.some.injEq, Addr.mk.injEq, and_true, true_and] at e
    obtain ⟨rfl, _, rfl⟩ := e
    refine ⟨rfl, by rw [flat_iv, List.length_map, Nat.mul_one], by rw [List.length_append] at hnc; simp at hnc; omega, fun e => by simp at e, fun j v hv => ⟨_, _, rfl, ?_⟩⟩
    rw [flat_iv] at hv
    have hj := (List.getElem?_eq_some_iff.1 hv).1
    rw [List.length_map] at hj
    have h2 := h
    unfold IvOwn at h2
    rw [List.length_append] at h2
    have h1 := World.ownsRow.cellAt h2 j (by simp; omega)
    rw [Nat.zero_add, h1, List.map_append, List.getElem?_append_left (by rw [List.length_map]; exact hj)]
    exact hv
theorem iv_last {w : World} {base g n c : Nat} {ts : List Int} {x : Int} (h : IvOwn w base (.slice (some ⟨g, 0, none⟩) (n + 1) c) (ts ++ [x])) (hn : ts.length = n) : w.cell? ⟨g, n, none⟩ = some (.int .i64 x) := by
  subst hn
  have h2 := h
  unfold IvOwn at h2
  rw [List.length_append] at h2
  have h1 := World.ownsRow.cellAt h2 ts.length (by simp)
  rw [h1, List.map_append, List.getElem?_append_right (by rw [List.length_map]; exact Nat.le_refl _), List.length_map, Nat.sub_self]
  rfl
theorem pw_nil : Pw [] := fun i j x y _ h => by simp at h
theorem pw_one (r : JW) : Pw [r] := fun i j x y hij h1 h2 => by
  have a := (List.getElem?_eq_some_iff.1 h1).1
  have b := (List.getElem?_eq_some_iff.1 h2).1
  simp at a b
  omega
theorem pw_app {a b : List JW} (h1 : Pw a) (h2 : Pw b) (h12 : ∀ x ∈ a, ∀ y ∈ b, ∀ k, x.v.ownBlock = some k → y.v.ownBlock ≠ some k) : Pw (a ++ b) := by
  intro i j x y hij hx hy k hk e
  rw [List.getElem?_append] at hx hy
  split at hx <;> split at hy
  · exact h1 i j x y hij hx hy k hk e
  · exact h12 x (List.mem_of_getElem? hx) y (List.mem_of_getElem? hy) k hk e
  · exact h12 y (List.mem_of_getElem? hy) x (List.mem_of_getElem? hx) k e hk
  · exact h2 _ _ x y (by omega) hx hy k hk e
theorem pw_nd {rv : List RV} (h : (rv.map RV.g).Nodup) : Pw (rv.map RV.jw) := by
  intro i j x y hij hx hy k hk e
  rw [List.getElem?_map] at hx hy
  obtain ⟨p, hp, rfl⟩ := Option.map_eq_some_iff.1 hx
  obtain ⟨q, hq, rfl⟩ := Option.map_eq_some_iff.1 hy
  have hk : some p.g = some k := hk
  have e : some q.g = some k := e
  have hpq : p.g = q.g := by rw [← e] at hk; exact Option.some.inj hk
  obtain ⟨hi, hpi⟩ := List.getElem?_eq_some_iff.1 hp
  obtain ⟨hj, hqj⟩ := List.getElem?_eq_some_iff.1 hq
  have h1 := List.pairwise_iff_getElem.1 h
  rcases Nat.lt_or_gt_of_ne hij with hlt | hlt
  · have := h1 i j (by simpa using hi) (by simpa using hj) hlt
    simp only [List.getElem_map, hpi, hqj] at this
    exact this hpq
  · have := h1 j i (by simpa using hj) (by simpa using hi) hlt
    simp only [List.getElem_map, hpi, hqj] at this
    exact this hpq.symm
theorem rv_jw_v (r : RV) : r.jw.v = r.v := rfl
theorem rv_own {w : World} {base : Nat} {rv : List RV} (h : ∀ r ∈ rv, Own w base r.v r.l) : ∀ r ∈ rv.map RV.jw, Own w base r.v r.l := fun r hr => by
  obtain ⟨q, hq, rfl⟩ := List.mem_map.1 hr
  exact h q hq
theorem bv_rows {w : World} {a : Option Addr} {n c : Nat} {rv : List RV} (h : Rcs (fun r : RV => [r.v]) 1 w a n c rv) : Rcs (fun r : JW => [r.v]) 1 w a n c (rv.map RV.jw) := by
  refine ⟨by rw [List.length_map]; exact h.size, ?_⟩
  have : (rv.map RV.jw).flatMap (fun r : JW => [r.v]) = rv.flatMap (fun r : RV => [r.v]) := by
    rw [flat_jv, flat_bv, List.map_map]
    rfl
  rw [this]
  exact h.row
/-- Both sides' Split, with the memory that the program's answer lies in. -/
theorem split_three {E : Nat → Addr} {L : List Nat} {len : Nat} {wD wP : World} {bD bP : Nat} {eP : Ending} {aD : Option Addr} {n cD k : Nat} {q : Int} (hL : L.length = len) (hs : ∀ c ∈ L, c < 256)
    (hD : SplD wD bD L len aD n cD k q)
    (hP : (∃ rs v, Pars L len 0 (rs.map RV.key) len ∧ eP = .returned (.tuple #[v, .nilIface]) ∧ RvOwn wP bP v rs) ∨
       (∃ rs p i q ev, Pars L len 0 rs p ∧ p < len ∧ Stk L p len i q ∧ eP = .returned (.tuple #[.slice none 0 0, ev]) ∧ AtErr wP bP ev (E i) (q : Int))) (hb : Below wD.heap.size wD wP) :
    ∃ aP cP ev rsD rv, eP = .returned (.tuple #[.slice aP n cP, ev]) ∧ IsErr wP E ev k q ∧ Rcs JW.cells 2 wP aP n cP (rv.map RV.jw) ∧ (∀ r ∈ rv.map RV.jw, Bts wP r.a r.n r.c r.l) ∧ Rcs JW.cells 2 wP aD n cD rsD ∧ (∀ r ∈ rsD, Bts wP r.a r.n r.c r.l) ∧ (rv.map RV.jw).map JW.key = rsD.map JW.key ∧ RvOwn wP bP (.slice aP n cP) rv ∧ (∀ r ∈ rv, r.l.length ≤ 65535) := by
  rcases hD with ⟨rs, ps, h1, h2, rfl, rfl, h5, h6, h7⟩ | ⟨ps, p, i, j, h1, h2, h3, e1, rfl, rfl, rfl, rfl⟩
  · rcases hP with ⟨rv, v', g1, g2, g3⟩ | ⟨ps', p, i, q, ev, g1, g2, g3, _⟩
    · obtain rfl : rv.map RV.key = ps := pars_uniq _ _ 0 g1 h1
      have g4 := g3
      obtain ⟨a, c, rfl, f1, f2⟩ := g3.shows (fun r hr => by
        have := (split_bound hL hs g1).1 r hr
        exact ⟨by omega, this.2⟩)
      have e : rv.length = n := by
        have e := congrArg List.length h2
        rw [List.length_map, List.length_map, List.length_map] at e
        omega
      rw [e] at f1 g2 g4
      obtain ⟨a', c', ee, k1, k2⟩ := (h6.below hb).shows h7
      simp only [Value.slice.injEq] at ee
      obtain ⟨rfl, _, rfl⟩ := ee
      rw [← h5] at k1
      refine ⟨a, c, _, rs, rv, g2, .inl ⟨rfl, rfl, rfl⟩, f1, f2, k1, k2, ?_, g4, fun r hr => ?_⟩
      · rw [h2, List.map_map, List.map_map]
        rfl
      · have := (split_bound hL hs g1).1 r hr
        omega
    · exact (pars_stk ps' _ 0 p i q h1 g1 g2 g3).elim
  · rcases hP with ⟨rv, v', g1, g2, g3⟩ | ⟨ps', p', i', q', ev, g1, g2, g3, g4, g5⟩
    · exact (pars_stk ps _ 0 p i j g1 h1 h2 h3).elim
    · obtain ⟨rfl, rfl⟩ := stk_uniq ps ps' 0 p p' i j i' q' h1 h3 g1 g3
      rw [e1]
      refine ⟨none, 0, ev, [], [], g4, at_isErr g5 (stk_code h3).1 (stk_code h3).2, ?_, fun r hr => by simp at hr, ?_, fun r hr => by simp at hr, rfl, rv_nil _ _, fun r hr => by simp at hr⟩
      · exact ⟨rfl, rfl, by decide, fun _ => ⟨rfl, rfl⟩, fun j v hv => by simp at hv⟩
      · exact ⟨rfl, rfl, by decide, fun _ => ⟨rfl, rfl⟩, fun j v hv => by simp at hv⟩
end Go.Proofs.YtohoncgkekiihaaDoor
