/-
  Steps over rows of many cells: a slice literal of one such row, and copy of whole rows.
  Pages as memory holds them: 66 cells each: rights, mark, 64 bytes; the document's Copy.
  Comparing pages: the document's and the program's Differ and Alike, the document's Same.
-/
import Derived.Test.YtegkodgondlcmaaDoorBase
import Derived.Deep.MidRow
import Derived.OwnWalk
import Derived.Laws.CopyOwn
import Derived.Stop.BytesEq
import Derived.Deep.RegionHeld3
import Derived.BigQuiet
namespace Go.Proofs.YtegkodgondlcmaaDoor
open Go.RowKit FerryCrc
set_option linter.unusedVariables false
set_option linter.unusedSimpArgs false

theorem fold_row : ∀ (cs : List Value) (k : Nat) (A : Array Value), k + cs.length ≤ A.size →
    (cs.zipIdx k).foldl (fun acc (x : Value × Nat) => acc.setIfInBounds (0 + x.2) x.1) A = (A.toList.take k ++ cs ++ A.toList.drop (k + cs.length)).toArray
  | [], k, A, h => by simp
  | c :: cs, k, A, h => by
    have h' : k < A.size := by simp at h; omega
    simp only [List.zipIdx_cons, List.foldl_cons]
    rw [fold_row cs (k + 1) _ (by simp at h ⊢; omega)]
    have e := list_seg_step A.toList k c cs (by simp at h ⊢; omega)
    simp only [List.length_cons, Array.toList_setIfInBounds, Nat.zero_add]
    exact congrArg List.toArray (by simpa [Nat.add_assoc] using e)
theorem fill_row (A : Array Value) (cs : List Value) (n : Nat) (hn : cs.length = n) (hA : A.size = n) :
    Instr.fill (fun i => some (i * n, n)) A [(0, .agg cs.toArray)] = some cs.toArray := by
  have hf : (cs.toArray.zipIdx).foldl (fun acc (x : Value × Nat) => acc.setIfInBounds (0 + x.2) x.1) A = cs.toArray := by
    rw [← Array.foldl_toList, Array.toList_zipIdx]
    have := fold_row cs 0 A (by omega)
    simp only [List.take_zero, List.nil_append, Nat.zero_add] at this ⊢
    rw [this, List.drop_eq_nil_of_le (by simp; omega)]
    simp
  simp only [Instr.fill, Value.cells, List.size_toArray, hn, hA, Nat.zero_mul]
  simp only [ne_eq, not_true_eq_false, decide_false, Nat.zero_add, gt_iff_lt, Nat.lt_irrefl, Bool.or_self, Bool.false_eq_true, if_false]
  simp only [Nat.zero_add] at hf
  exact congrArg some hf
theorem run_build1 {P : Program} (w : World) (t e : TypeId) (i : TypeInfo) (z : Value) (cs : List Value) (ht : P.underlying t = some (.slice e)) (hi : P.info? e = some i) (hz : i.zero = some z)
    (hsize : i.size = cs.length) (h0 : 0 < cs.length) (hm : cs.length ≤ 16777216) :
    (Instr.buildSlice t 1 #[(0, .agg cs.toArray)]).run P w = .ok (.slice (some ⟨w.heap.size, 0, none⟩) 1 1) (w.alloc (.cells cs.toArray e)) := by
  have hf := fill_row ((Array.range cs.length).map (fun j => z.cells[j % z.cells.size]!)) cs cs.length rfl (by simp)
  have h1 : ¬ 16777216 < cs.length := by omega
  have h2 : ¬ cs.length = 0 := by omega
  simp [Instr.buildSlice, run_underlying ht, sizeOf, typeInfo, hi, hsize, zeroValue, hz, h1, h2, hf, newRow]
theorem wpList_build1 {P : Program} {w : World} {ops : Array Oper} {rest : List Oper} {o : Oper} {a : Act} {Q : Exit → Act → World → Prop} (hgd : o.guard = none) (t : TypeId) (x : Operand) (ho : o.op = .buildSlice t 1 #[(0, x)])
    (cs : List Value) (hx : a.eval x = .agg cs.toArray) (e : TypeId) (i : TypeInfo) (z : Value) (ht : P.underlying t = some (.slice e)) (hi : P.info? e = some i) (hz : i.zero = some z)
    (hsize : i.size = cs.length) (h0 : 0 < cs.length) (hm : cs.length ≤ 16777216)
    (h : wpList P ops Q rest (a.put o.dst (.slice (some ⟨w.heap.size, 0, none⟩) 1 1)) (w.alloc (.cells cs.toArray e))) : wpList P ops Q (o :: rest) a w := by
  refine wpList_plain hgd fun K hK => ?_
  have hrun := run_build1 (P := P) w t e i z cs ht hi hz hsize h0 hm
  unfold Oper.wp
  simp only [execOp, ho, List.map_toArray, List.map_cons, List.map_nil, hx, Sem.run_bind, hrun, Result.andThen_ok, Sem.run_pure]
  exact hK _ _ h
theorem run_copy_wide {P : Program} (w : World) (dT sT ty elem : TypeId) (g o dLen dCap : Nat) (a : Addr) (sLen sCap : Nat) (cur : Array Value) (t : TypeId) (cs : List Value) (sz : Nat)
    (hu : P.underlying dT = some (.slice elem)) (hs : (P.info? elem).map (·.size) = some sz)
    (hg : w.heap[g]? = some (.cells cur t (0, 0))) (hn : cs.length = Nat.min sLen dLen * sz)
    (hsrc : ∀ j v, cs[j]? = some v → w.cell? (a.add j) = some v) (hfit : o + cs.length ≤ cur.size) (h1 : ∀ v ∈ cs, v.oneCell' = true) :
    (Builtin.copy_ #[dT, sT] ty #[.slice (some ⟨g, o, none⟩) dLen dCap, .slice (some a) sLen sCap]).run P w =
      .ok (goInt (Nat.min sLen dLen)) (w.setRow g (cur.toList.take o ++ cs ++ cur.toList.drop (o + cs.length)).toArray) := by
  have hl := run_loadCells_list (P := P) w a cs hsrc
  have hst := run_storeCells_at P g o t cs 0 cur w hg (by simpa using hfit) h1
  cases hq : P.info? elem with
  | none => simp [hq] at hs
  | some i =>
    have hi : i.size = sz := by simpa [hq] using hs
    rw [hn] at hl
    simp only [Nat.add_zero] at hst
    simp [Builtin.copy_, run_underlying hu, Builtin.lenOf, Builtin.firstCells, sizeOf, typeInfo, hq, hi, hl, hst]
theorem wpList_copy_wide {P : Program} {w : World} {ops : Array Oper} {rest : List Oper} {o : Oper} {a : Act} {Q : Exit → Act → World → Prop} (hgd : o.guard = none) (d s : Operand) (dT sT : TypeId)
    (ho : o.op = .call { callee := .builtin .copy, args := #[d, s], argTypes := #[dT, sT] }) (elem : TypeId) (sz : Nat) (hu : P.underlying dT = some (.slice elem)) (hsz : (P.info? elem).map (·.size) = some sz)
    (g off dLen dCap : Nat) (ad : Addr) (sLen sCap : Nat) (hd : a.eval d = .slice (some ⟨g, off, none⟩) dLen dCap) (hs : a.eval s = .slice (some ad) sLen sCap)
    (cur : Array Value) (t : TypeId) (hg : w.heap[g]? = some (.cells cur t (0, 0))) (cs : List Value) (hn : cs.length = Nat.min sLen dLen * sz)
    (hsrc : ∀ j v, cs[j]? = some v → w.cell? (ad.add j) = some v) (hfit : off + cs.length ≤ cur.size) (h1 : ∀ v ∈ cs, v.oneCell' = true)
    (h : wpList P ops Q rest (a.put o.dst (goInt (Nat.min sLen dLen))) (w.setRow g (cur.toList.take off ++ cs ++ cur.toList.drop (off + cs.length)).toArray)) : wpList P ops Q (o :: rest) a w := by
  refine wpList_plain hgd fun K hK => ?_
  have hrun := run_copy_wide (P := P) w dT sT o.type elem g off dLen dCap ad sLen sCap cur t cs sz hu hsz hg hn hsrc hfit h1
  unfold Oper.wp
  simp [execOp, ho, resolve, invoke, builtin, hd, hs, hrun, Result.andThen]
  exact hK _ _ (by simpa using h)
end Go.Proofs.YtegkodgondlcmaaDoor
namespace Go.Proofs.YtegkodgondlcmaaDoor
open Go.RowKit FerryCrc
set_option linter.unusedVariables false

/-- A page: its rights, its mark, its bytes. -/
structure Pg where
  rights : Int
  dirty : Bool
  data : List Nat
def Pg.row (p : Pg) : List Value := p.data.map bv
def Pg.cells (p : Pg) : List Value := .int .i64 p.rights :: .bool p.dirty :: p.row
structure Pg.Ok (p : Pg) : Prop where
  lo : -9223372036854775808 ≤ p.rights
  hi : p.rights ≤ 9223372036854775807
  size : p.data.length = 64
  small : ∀ c ∈ p.data, c < 256
theorem Pg.Ok.row {p : Pg} (h : p.Ok) : p.row.length = 64 := by simp [Pg.row, h.size]
theorem Pg.Ok.cells {p : Pg} (h : p.Ok) : p.cells.length = 66 := by simp [Pg.cells, h.row]
theorem Pg.one (p : Pg) : ∀ u ∈ p.cells, u.oneCell' = true := by
  intro u hu
  simp only [Pg.cells, List.mem_cons] at hu
  rcases hu with rfl | rfl | hu
  · rfl
  · rfl
  · exact bv_one _ u hu
def Oks (l : List Pg) : Prop := ∀ p ∈ l, p.Ok
theorem Oks.take {l : List Pg} (h : Oks l) (k : Nat) : Oks (l.take k) := fun p hp => h p (List.mem_of_mem_take hp)
/-- The cells of a list of pages. -/
def flat (l : List Pg) : List Value := l.flatMap Pg.cells
theorem flat_len {l : List Pg} (h : Oks l) : (flat l).length = l.length * 66 := by
  induction l with
  | nil => rfl
  | cons p l ih =>
    have hp := (h p (by simp)).cells
    have := ih (fun q hq => h q (by simp [hq]))
    simp only [flat, List.flatMap_cons, List.length_append, List.length_cons] at this ⊢
    omega
theorem flat_get {l : List Pg} (h : Oks l) : ∀ {k : Nat} {p : Pg} (j : Nat), l[k]? = some p → j < 66 → (flat l)[k * 66 + j]? = p.cells[j]? := by
  induction l with
  | nil => intro k p j hp; simp at hp
  | cons q l ih =>
    intro k p j hp hj
    have hq := (h q (by simp)).cells
    simp only [flat, List.flatMap_cons]
    cases k with
    | zero =>
      simp at hp
      subst hp
      rw [List.getElem?_append_left (by omega), Nat.zero_mul, Nat.zero_add]
    | succ k =>
      rw [List.getElem?_append_right (by omega), show (k + 1) * 66 + j - q.cells.length = k * 66 + j by omega]
      exact ih (fun x hx => h x (by simp [hx])) j (by simpa using hp) hj
theorem flat_one (l : List Pg) : ∀ u ∈ flat l, u.oneCell' = true := by
  intro u hu
  obtain ⟨p, _, hp⟩ := List.mem_flatMap.1 hu
  exact p.one u hp
theorem flat_snoc (l : List Pg) (p : Pg) : flat (l ++ [p]) = flat l ++ p.cells := by simp [flat]
theorem flat_set {l : List Pg} (h : Oks l) : ∀ {k : Nat} {p q : Pg} (j : Nat) (u : Value), l[k]? = some p → j < 66 → q.cells = p.cells.set j u → (flat l).set (k * 66 + j) u = flat (l.set k q) := by
  induction l with
  | nil => intro k p q j u hp; simp at hp
  | cons x l ih =>
    intro k p q j u hp hj hq
    have hx := (h x (by simp)).cells
    cases k with
    | zero =>
      simp at hp
      subst hp
      simp only [flat, List.flatMap_cons, List.set_cons_zero, Nat.zero_mul, Nat.zero_add]
      rw [List.set_append_left _ _ (by omega), hq]
    | succ k =>
      simp only [flat, List.flatMap_cons, List.set_cons_succ]
      rw [List.set_append_right _ _ (by omega), show (k + 1) * 66 + j - x.cells.length = k * 66 + j by omega]
      have := ih (fun y hy => h y (by simp [hy])) j u (by simpa using hp) hj hq
      simp only [flat] at this
      rw [this]

/-- The pages that a slice shows in a world. -/
structure Pgs (w : World) (a : Option Addr) (len cap : Nat) (l : List Pg) : Prop where
  size : l.length = len
  most : len ≤ 1759218604391
  fit : len ≤ cap
  ok : Oks l
  null : a = none → len = 0 ∧ cap = 0
  cell : ∀ k p, l[k]? = some p → ∃ b off, a = some ⟨b, off, none⟩ ∧ w.rangeAt b (off + k * 66) p.cells

theorem range_below {w w' : World} {b o : Nat} {cs : List Value} (h : w.rangeAt b o cs) (hb : Below w.heap.size w w') : w'.rangeAt b o cs := fun j v hv => by
  have hc := h j v hv
  rw [hb.cell (p := ⟨b, o + j, none⟩) (block_lt_of_cell hc)]
  exact hc
theorem Pgs.below {w w' : World} {a : Option Addr} {len cap : Nat} {l : List Pg} (h : Pgs w a len cap l) (hb : Below w.heap.size w w') : Pgs w' a len cap l :=
  ⟨h.size, h.most, h.fit, h.ok, h.null, fun k p hk => by
    obtain ⟨b, off, e, hr⟩ := h.cell k p hk
    exact ⟨b, off, e, range_below hr hb⟩⟩
/-- A slice of pages of the call's own memory, from block 'base' on. -/
def POwn (w : World) (base : Nat) (v : Value) (l : List Pg) : Prop := w.ownsRow base 38 66 v l.length (flat l)

theorem POwn.below {w w' : World} {base : Nat} {v : Value} {L : List Pg} (h : POwn w base v L) (hb : Below w.heap.size w w') : POwn w' base v L := by
  refine ⟨h.1, ?_⟩
  rcases h.2 with e | ⟨g, cap, cur, e, hg, hh, r⟩
  · exact .inl e
  · refine .inr ⟨g, cap, cur, e, hg, ?_, r⟩
    rw [hb.block g (Array.getElem?_eq_some_iff.1 hh).1]
    exact hh
theorem POwn.weaken {w : World} {base base' : Nat} {v : Value} {L : List Pg} (h : POwn w base v L) (hb : base' ≤ base) : POwn w base' v L := by
  refine ⟨h.1, ?_⟩
  rcases h.2 with e | ⟨g, cap, cur, e, hg, r⟩
  · exact .inl e
  · exact .inr ⟨g, cap, cur, e, Nat.le_trans hb hg, r⟩
/-- What a slice of the call's own shows. -/
theorem POwn.pgs {w : World} {base : Nat} {v : Value} {l : List Pg} (h : POwn w base v l) (ok : Oks l) (hm : l.length ≤ 1759218604391) :
    ∃ a c, v = .slice a l.length c ∧ Pgs w a l.length c l ∧ ((a = none ∧ l = []) ∨ ∃ g, a = some ⟨g, 0, none⟩ ∧ base ≤ g) := by
  rcases h.2 with ⟨e, hn⟩ | ⟨g, cap, cur, e, hg, hh, hnc, hcm, hcs, htake⟩
  · have hl : l = [] := List.length_eq_zero_iff.1 hn
    subst hl
    exact ⟨none, 0, e, ⟨rfl, by decide, by decide, ok, fun _ => ⟨rfl, rfl⟩, fun k p hk => by simp at hk⟩, .inl ⟨rfl, rfl⟩⟩
  · subst e
    refine ⟨_, cap, rfl, ⟨rfl, hm, hnc, ok, fun e => by simp at e, fun k p hk => ⟨g, 0, rfl, fun j v hv => ?_⟩⟩, .inr ⟨g, rfl, hg⟩⟩
    have hkl : k < l.length := (List.getElem?_eq_some_iff.1 hk).1
    have hj : j < 66 := by
      have := (List.getElem?_eq_some_iff.1 hv).1
      rw [(ok p (List.mem_of_getElem? hk)).cells] at this
      exact this
    have := World.ownsRow.cellAt h (k * 66 + j) (by omega)
    rw [Nat.zero_add, this, flat_get ok j hk hj]
    exact hv

theorem infoPage : ∃ i z, Tryd.prog.info? 38 = some i ∧ i.zero = some z ∧ i.size = 66 ∧ i.bytes = 80 ∧ z.cells.size = 66 := by
  have h : (Tryd.prog.info? 38).map (fun i => (i.size, i.bytes, i.zero.map (·.cells.size))) = some (66, 80, some 66) := by kernel_rfl
  cases hi : Tryd.prog.info? 38 with
  | none => simp [hi] at h
  | some i =>
    simp only [hi, Option.map_some, Option.some.injEq, Prod.mk.injEq] at h
    obtain ⟨h1, h2, h3⟩ := h
    cases hz : i.zero with
    | none => simp [hz] at h3
    | some z => exact ⟨i, z, rfl, hz, h1, h2, by simpa [hz] using h3⟩
theorem sizePage : (Tryd.prog.info? 38).map (·.size) = some 66 := by kernel_rfl
theorem sizeData : (Tryd.prog.info? 36).map (·.size) = some 64 := by kernel_rfl

/-- append of one page that lies in a block of its own. -/
theorem append_pg {w : World} {ops : Array Oper} {rest : List Oper} {o : Oper} {act : Act} {Q : Exit → Act → World → Prop} (hgd : o.guard = none) (s x : Operand)
    (ho : o.op = .call { callee := .builtin .append, args := #[s, x], argTypes := #[22, 22] })
    (base : Nat) (v : Value) (xs : List Pg) (hs : act.eval s = v) (hown : POwn w base v xs)
    (g c : Nat) (p : Pg) (hx : act.eval x = .slice (some ⟨g, 0, none⟩) 1 c) (hp : p.Ok) (hc : w.rangeAt g 0 p.cells)
    (h63 : xs.length < 1759218604391) (hbase : base ≤ w.heap.size)
    (h : ∀ v' w', POwn w' base v' (xs ++ [p]) → w.grownBy w' v.ownBlock → wpList Tryd.prog ops Q rest (act.put o.dst v') w') : wpList Tryd.prog ops Q (o :: rest) act w := by
  obtain ⟨i, z, hi, hz, hsz, hby, hzs⟩ := infoPage
  refine wpList_append_own w hgd s x 22 ho base 38 i z 66 80 Tryd.underlying22 hi hz hsz hby hzs (by decide) v xs.length (flat xs) hs hown ⟨g, 0, none⟩ 1 c p.cells hx (by rw [hp.cells]) ?_ p.one (by unfold maxLen; omega) (by omega) hbase ?_
  · intro j u hu
    rw [add_none]
    exact hc j u hu
  · intro v' w' h1 h2 h3
    refine h v' w' ?_ h2
    unfold POwn
    rw [List.length_append, flat_snoc]
    exact h1

theorem range_alloc (w : World) (cs : List Value) (t : TypeId) : (w.alloc (.cells cs.toArray t)).rangeAt w.heap.size 0 cs := fun j v hv => by
  rw [World.cell?_alloc_at _ _ _ _ rfl]
  simpa using hv

set_option maxRecDepth 100000 in
set_option maxHeartbeats 400000 in
theorem refCopy_any (a : Option Addr) (len cap : Nat) (l : List Pg) (w : World) (hs : Pgs w a len cap l) :
    Calls Tryd.prog 10 #[.slice a len cap] w fun e w' => ∃ v, e = .returned v ∧ POwn w' w.heap.size v l ∧ Below w.heap.size w w' := by
  have hm := hs.most
  have HS := hide hs
  clear hs
  go_enter Tryd.func10, Tryd.ntmps10
  go_wp2
  go_loopw [3, 4] (fun o i wr => ∃ k : Nat, k ≤ len ∧ i = .int .i64 k ∧ Hid (POwn wr w.heap.size o (l.take k)) ∧ Hid (Below w.heap.size w wr)) (fun _ i _ => len - (intOf i).toNat)
  case atStart => exact ⟨0, by omega, rfl, World.ownsRow_nil _ _ _ _, Below.refl _ _⟩
  case round =>
    obtain ⟨k, hk, rfl, hown, hb⟩ := hrel
    by_cases hlt : k < len
    · obtain ⟨p, hp⟩ : ∃ p, l[k]? = some p := ⟨_, List.getElem?_eq_getElem (by rw [HS.out.size]; exact hlt)⟩
      obtain ⟨b, off, rfl, hr⟩ := HS.out.cell k p hp
      have HR := hide (range_below hr hb.out)
      have hpo : p.Ok := HS.out.ok p (List.mem_of_getElem? hp)
      have HP := hide hpo
      have HT : Hid (l.take (k + 1) = l.take k ++ [p]) := by unfold Hid; rw [List.take_add_one, hp]; rfl
      have HTL : Hid ((l.take k).length < 1759218604391) := by unfold Hid; rw [List.length_take]; omega
      have HI := hide infoPage
      clear hr hp hpo
      go_wp2_with (first
        | (refine wpList_load_mid rfl 38 (.tmp 14) rfl b (off + k * 66) rfl p.cells _ HR.out Tryd.underlying38 rfl (by rw [HP.out.cells]; exact sizePage) ?_)
        | (obtain ⟨i, z, hi, hz, hsz, _, _⟩ := HI.out; refine wpList_build1 rfl 22 (.tmp 15) rfl p.cells rfl 38 i z Tryd.underlying22 hi hz (by rw [HP.out.cells]; exact hsz) (by rw [HP.out.cells]; decide) (by rw [HP.out.cells]; decide) ?_; clear hi hz hsz)
        | (at_builtin; refine append_pg rfl (.tmp 11) (.tmp 16) rfl w.heap.size _ (l.take k) rfl (hown.out.below ((Below.refl _ _).alloc (Nat.le_refl _) _)) wr.heap.size 1 p rfl HP.out (range_alloc _ _ _) HTL.out (by simp; have := hb.out.size; omega) ?_; intro v' w1 hown1 hgrow1))
      have hb1 : Hid (Below w.heap.size w w1) := (hb.out.alloc hb.out.size _).grown hgrow1 (by simp; have := hb.out.size; omega) (fun j e => (World.ownsRow.lt hown.out j e).1)
      go_roundw
      case rel => exact ⟨k + 1, by omega, by go_num, by rw [HT.out]; exact hown1, hb1⟩
      case measure => simp [intOf]; omega
    · obtain rfl : k = len := by omega
      have HT : Hid (l.take k = l) := by unfold Hid; rw [← HS.out.size, List.take_length]
      go_wp2
      go_ret
      exact ⟨_, rfl, by rw [← HT.out]; exact hown.out, hb.out⟩
end Go.Proofs.YtegkodgondlcmaaDoor
namespace Go.Proofs.YtegkodgondlcmaaDoor
open Go.RowKit FerryCrc
set_option linter.unusedVariables false

theorem row_cells {l : List Nat} (h : ∀ c ∈ l, c < 256) : l.map bv = (l.map UInt8.ofNat).map Extern.Stop.cell := by
  rw [List.map_map]
  refine List.map_congr_left fun c hc => ?_
  have := h c hc
  simp [bv, Extern.Stop.cell]
  omega
theorem row_eq {l m : List Nat} (h : ∀ c ∈ l, c < 256) (h' : ∀ c ∈ m, c < 256) : (l.map UInt8.ofNat == m.map UInt8.ofNat) = decide (l = m) := by
  rw [Bool.eq_iff_iff]
  simp only [beq_iff_eq, decide_eq_true_eq]
  constructor
  · intro e
    have e2 := congrArg (List.map UInt8.toNat) e
    simp only [List.map_map] at e2
    rw [List.map_congr_left (g := id) (fun c hc => by have := h c hc; simp; omega), List.map_congr_left (l := m) (g := id) (fun c hc => by have := h' c hc; simp; omega)] at e2
    simpa using e2
  · intro e; rw [e]
theorem size1 : ∀ w, (sizeOf 5).run Tryd.prog w = .ok 1 w := by
  intro w
  have h : (Tryd.prog.info? 5).map (·.size) = some 1 := by kernel_rfl
  cases hq : Tryd.prog.info? 5 with
  | none => simp [hq] at h
  | some i => simp [sizeOf, typeInfo, hq]; simpa [hq] using h
theorem eq_rows (d : Nat) {p q : Pg} (hp : p.Ok) (hq : q.Ok) (w : World) : (Op.equalIn (d + 2) 36 (.agg p.row.toArray) (.agg q.row.toArray)).run Tryd.prog w = .ok (decide (p.data = q.data)) w := by
  have := run_equalIn_bytes (P := Tryd.prog) w d 36 5 64 Tryd.underlying36 Tryd.underlying5 size1 (p.data.map UInt8.ofNat) (q.data.map UInt8.ofNat) (by simp [hp.size]) (by simp [hq.size])
  unfold Pg.row
  rw [row_cells hp.small, row_cells hq.small, this, row_eq hp.small hq.small]
theorem neq_rows {p q : Pg} (hp : p.Ok) (hq : q.Ok) (w : World) : (binOp .neq 36 (.agg p.row.toArray) (.agg q.row.toArray)).run Tryd.prog w = .ok (.bool (!decide (p.data = q.data))) w := by
  rw [run_neq_struct, eq_rows 9998 hp hq w]
  rfl
theorem quiet_run {P : Program} {C : World → Prop} {a : Act} {o : Oper} {K : Act → Prop} (v : Value) (h : ∀ w, C w → (execOp a.eval o).run P w = .ok (.value v) w) (hk : K (a.put o.dst v)) : o.quiet P a C K :=
  ⟨v, fun w hw => by unfold Oper.quietAt; rw [h w hw]; exact ⟨rfl, rfl⟩, hk⟩
theorem quiet_load_mid {P : Program} {w0 : World} {a : Act} {o : Oper} {K : Act → Prop} (ty : TypeId) (x : Operand) (ho : o.op = .load ty x)
    (b off : Nat) (hx : a.eval x = .pointer (some ⟨b, off, none⟩)) (cs : List Value) (d : TypeDesc) (hc : w0.rangeAt b off cs)
    (hu : P.underlying ty = some d) (hd : d.isRow = true) (hi : (P.info? ty).map (·.size) = some cs.length) (hk : K (a.put o.dst (.agg cs.toArray))) : o.quiet P a (fun w' => ∃ n, w' = w0.drewN n) K := by
  refine quiet_run _ (fun w hw => ?_) hk
  obtain ⟨n, rfl⟩ := hw
  have hc' : (w0.drewN n).rangeAt b off cs := hc
  unfold execOp
  simp only [ho, hx, Instr.loadAt, Instr.sureAddr, Sem.run_bind, Sem.run_pure, Result.andThen_ok, run_loadVar_mid _ b off ty cs d hc' hu hd hi]
theorem quiet_neq {P : Program} {C : World → Prop} {a : Act} {o : Oper} {K : Act → Prop} (ty t' : TypeId) (x y : Operand) (ho : o.op = .binOp .neq ty x y t') (A B : Array Value) (hx : a.eval x = .agg A) (hy : a.eval y = .agg B)
    (hg : P.eqGuardType P.depth ty = false) (r : Bool) (hr : ∀ w, (binOp .neq ty (.agg A) (.agg B)).run P w = .ok (.bool r) w) (hk : K (a.put o.dst (.bool r))) : o.quiet P a C K := by
  refine quiet_run _ (fun w hw => ?_) hk
  unfold execOp
  simp only [ho, hx, hy, Sem.run_bind, run_eqGuard_agg _ _ _ _ _ _ _ hg, Result.andThen_ok, hr]
  rfl
end Go.Proofs.YtegkodgondlcmaaDoor
