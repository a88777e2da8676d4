/-
  Blocks, lists of one's own, what a call leaves as it was: no program in it but its types.
-/
import Derived.Test.YthcmeboepedelaaDoorRcs
import Derived.Test.YthcmeboepedelaaDoorBase
import Derived.Laws.BytesArg
import Derived.Laws.IdiomStrings
import Derived.OwnWalk
import Derived.BigQuiet
import Derived.Deep.Cut
import Derived.ArgAppend
namespace Go.Proofs.YthcmeboepedelaaDoor
open Go.RowKit FerryCrc
set_option linter.unusedVariables false
set_option linter.unusedSimpArgs false

theorem xnew (w : World) (o : Obj) : Below w.heap.size w (w.alloc o) := (Below.refl _ _).alloc (Nat.le_refl _) _
/-- Bytes as a string. -/
def str (l : List Nat) : ByteArray := ⟨(l.map UInt8.ofNat).toArray⟩
/-- The bytes of a string. -/
def bytesOf (s : ByteArray) : List Nat := s.data.toList.map (·.toNat)
theorem bytesOf_lt (s : ByteArray) : ∀ c ∈ bytesOf s, c < 256 := by
  intro c hc
  obtain ⟨x, _, rfl⟩ := List.mem_map.1 hc
  exact x.toNat_lt
theorem str_bytesOf (s : ByteArray) : str (bytesOf s) = s := by
  obtain ⟨⟨l⟩⟩ := s
  simp [str, bytesOf, Function.comp_def]
theorem bytesOf_len (s : ByteArray) : (bytesOf s).length = s.size := by
  obtain ⟨⟨l⟩⟩ := s
  simp [bytesOf, ByteArray.size]
theorem str_len (l : List Nat) : (str l).size = l.length := by simp [str, ByteArray.size]
theorem str_app (a b : List Nat) : str a ++ str b = str (a ++ b) := by
  apply ByteArray.ext
  simp [str]
theorem bts_string {w : World} {a : Option Addr} {n c : Nat} {l : List Nat} (h : Bts w a n c l) : (convert 70 9 (.slice a n c)).run Tryd.prog w = .ok (.string (str l)) w := by
  match a, h with
  | none, h =>
    obtain ⟨rfl, rfl⟩ := h.null rfl
    obtain rfl : l = [] := List.length_eq_zero_iff.1 h.size
    exact run_convert_bytes_nil (P := Tryd.prog) w 70 5 Tryd.underlying70 Tryd.underlying5 0 0 9 Tryd.underlying9
  | some ad, h =>
    have := run_convert_bytes_back (P := Tryd.prog) w 70 9 5 ad c (l.map UInt8.ofNat) Tryd.underlying70 Tryd.underlying5 Tryd.underlying9 (fun j hj => by
      have hj' : j < l.length := by simpa using hj
      obtain ⟨b, off, ha, x, hl, hc⟩ := h.cell j (by rw [← h.size]; exact hj')
      simp only [Option.some.injEq] at ha
      subst ha
      rw [add_none, hc]
      have hlt := h.small x (List.mem_of_getElem? hl)
      have hx : l[j] = x := by rw [List.getElem?_eq_getElem hj'] at hl; simpa using hl
      simp [hx]
      omega)
    rw [List.length_map, h.size] at this
    exact this
/-- Cells laid over a row. -/
def setL : List Value → Nat → List Value → List Value
  | xs, _, [] => xs
  | xs, o, v :: vs => setL (xs.set o v) (o + 1) vs
theorem setL_past : ∀ (vs xs ys : List Value) (o : Nat), setL (xs ++ ys) (xs.length + o) vs = xs ++ setL ys o vs
  | [], _, _, _ => rfl
  | v :: vs, xs, ys, o => by
    show setL ((xs ++ ys).set (xs.length + o) v) (xs.length + o + 1) vs = xs ++ setL (ys.set o v) (o + 1) vs
    rw [List.set_append_right _ _ (by omega), show xs.length + o - xs.length = o by omega, show xs.length + o + 1 = xs.length + (o + 1) by omega]
    exact setL_past vs xs (ys.set o v) (o + 1)
theorem setL_all : ∀ (vs xs ys : List Value), xs.length = vs.length → setL (xs ++ ys) 0 vs = vs ++ ys
  | [], xs, ys, h => by
    obtain rfl : xs = [] := List.length_eq_zero_iff.1 h
    rfl
  | v :: vs, x :: xs, ys, h => by
    have h1 := setL_past vs [v] (xs ++ ys) 0
    have h2 := setL_all vs xs ys (by simpa using h)
    show setL (v :: (xs ++ ys)) (0 + 1) vs = v :: (vs ++ ys)
    rw [h2] at h1
    exact h1
theorem fl_setL {α : Type} {f : α → List Value} {sz : Nat} (hf : ∀ x, (f x).length = sz) : ∀ {l : List α} {k : Nat} {y : α}, k < l.length → setL (l.flatMap f) (k * sz) (f y) = (l.set k y).flatMap f
  | [], k, y, h => by simp at h
  | x :: l, 0, y, _ => by
    show setL (f x ++ l.flatMap f) (0 * sz) (f y) = f y ++ l.flatMap f
    rw [Nat.zero_mul]
    exact setL_all (f y) (f x) _ (by rw [hf, hf])
  | x :: l, k + 1, y, h => by
    have ih := fl_setL hf (l := l) (k := k) (y := y) (by simpa using h)
    show setL (f x ++ l.flatMap f) ((k + 1) * sz) (f y) = f x ++ (l.set k y).flatMap f
    rw [← ih, ← setL_past, hf, show (k + 1) * sz = sz + k * sz by rw [Nat.add_mul]; omega]
theorem grw_refl (w : World) (r : Option Nat) : w.grownBy w r := ⟨rfl, rfl, rfl, Nat.le_refl _, fun _ _ _ => rfl⟩
theorem grw_trans {w w1 w2 : World} {r : Option Nat} (h1 : w.grownBy w1 r) (h2 : w1.grownBy w2 r) : w.grownBy w2 r :=
  ⟨h2.os.trans h1.os, h2.tape.trans h1.tape, h2.output.trans h1.output, Nat.le_trans h1.size h2.size, fun k hk hn => (h2.block k (Nat.lt_of_lt_of_le hk h1.size) hn).trans (h1.block k hk hn)⟩
theorem own_setL {base : Nat} {e : TypeId} {size g n cap : Nat} : ∀ (vs : List Value) (o : Nat) (w : World) (xs : List Value), w.ownsRow base e size (.slice (some ⟨g, 0, none⟩) n cap) n xs →
    (w.setCells g o vs).ownsRow base e size (.slice (some ⟨g, 0, none⟩) n cap) n (setL xs o vs) ∧ w.grownBy (w.setCells g o vs) (some g)
  | [], _, w, _, h => ⟨h, grw_refl w _⟩
  | v :: vs, o, w, xs, h => by
    obtain ⟨h1, g1⟩ := World.ownsRow.stored h o v
    obtain ⟨h2, g2⟩ := own_setL vs (o + 1) _ _ h1
    exact ⟨h2, grw_trans g1 g2⟩
/-- A list of records of one's own. -/
def LOwn {α : Type} (f : α → List Value) (sz : Nat) (e : TypeId) (w : World) (base : Nat) (v : Value) (l : List α) : Prop := w.ownsRow base e sz v l.length (l.flatMap f)
theorem LOwn.below {α : Type} {f : α → List Value} {sz : Nat} {e : TypeId} {w w' : World} {base : Nat} {v : Value} {l : List α} (h : LOwn f sz e w base v l) (hb : Below w.heap.size w w') : LOwn f sz e w' base v l := ownsRow_below h hb
theorem LOwn.weaken {α : Type} {f : α → List Value} {sz : Nat} {e : TypeId} {w : World} {base base' : Nat} {v : Value} {l : List α} (h : LOwn f sz e w base v l) (hb : base' ≤ base) : LOwn f sz e w base' v l := ownsRow_weaken h hb
theorem LOwn.rcs {α : Type} {f : α → List Value} {sz : Nat} {e : TypeId} {w : World} {base : Nat} {v : Value} {l : List α} (h : LOwn f sz e w base v l) : ∃ a c, v = .slice a l.length c ∧ Rcs f sz w a l.length c l := by
  obtain ⟨a, c, e1, hr⟩ := RLk.row (.inl h)
  exact ⟨a, c, e1, rfl, hr⟩
theorem LOwn.put {α : Type} {f : α → List Value} {sz : Nat} {e : TypeId} (hf : ∀ x, (f x).length = sz) {w : World} {base g n cap : Nat} {l : List α} (h : LOwn f sz e w base (.slice (some ⟨g, 0, none⟩) n cap) l) (hn : l.length = n) {k : Nat} (hk : k < n) (y : α) :
    (∀ j, j < sz → (∃ u, w.cell? ⟨g, k * sz + j, none⟩ = some u) ∧ w.frozen? ⟨g, k * sz + j, none⟩ = false) ∧ LOwn f sz e (w.setCells g (k * sz) (f y)) base (.slice (some ⟨g, 0, none⟩) n cap) (l.set k y) ∧ w.grownBy (w.setCells g (k * sz) (f y)) (some g) ∧ base ≤ g ∧ g < w.heap.size := by
  subst hn
  obtain ⟨h1, h2⟩ := own_setL (f y) (k * sz) w _ h
  rw [fl_setL hf hk] at h1
  have hlt := World.ownsRow.lt h g rfl
  refine ⟨fun j hj => ⟨?_, World.ownsRow.frozenAt h _⟩, ?_, h2, hlt.1, hlt.2⟩
  · have hj2 : k * sz + j < l.length * sz := by
      have := Nat.mul_le_mul_right sz (show k + 1 ≤ l.length from hk)
      rw [Nat.add_mul] at this
      omega
    have hl := fl_len hf l
    refine ⟨_, (World.ownsRow.cellAt h (k * sz + j) hj2).trans (List.getElem?_eq_getElem (by omega))⟩
  · unfold LOwn
    rw [List.length_set]
    exact h1
theorem info_open {P : Program} {t : TypeId} {s b : Nat} {z : Array Value} (h : (P.info? t).map (fun i => (i.size, i.bytes, i.zero.map (·.cells))) = some (s, b, some z)) : ∃ i v, P.info? t = some i ∧ i.zero = some v ∧ i.size = s ∧ i.bytes = b ∧ v.cells = z := by
  cases hi : P.info? t with
  | none => simp [hi] at h
  | some i =>
    simp only [hi, Option.map_some, Option.some.injEq, Prod.mk.injEq] at h
    obtain ⟨h1, h2, h3⟩ := h
    cases hz : i.zero with
    | none => simp [hz] at h3
    | some z => exact ⟨i, z, rfl, hz, h1, h2, by simpa [hz] using h3⟩
/-- make of n records. -/
theorem make_recs {α : Type} {f : α → List Value} {sz byt : Nat} (hf : ∀ x, (f x).length = sz) (h0 : 0 < sz) (z : α) {t e : TypeId} (ht : Tryd.prog.underlying t = some (.slice e)) (hinfo : (Tryd.prog.info? e).map (fun i => (i.size, i.bytes, i.zero.map (·.cells))) = some (sz, byt, some (f z).toArray))
    {w : World} {ops : Array Oper} {rest : List Oper} {o : Oper} {act : Act} {Q : Exit → Act → World → Prop} (hgd : o.guard = none) (l c : Operand)
    (ho : o.op = Op.makeSlice t l c) (L C : Int) (n : Nat) (hl : act.eval l = .int .i64 L) (hc : act.eval c = .int .i64 C) (hL : L = (n : Int)) (hC : C = (n : Int)) (hn : n * byt ≤ 140737488355328) (hn2 : n ≤ 140737488355328)
    (h : ∀ w', LOwn f sz e w' w.heap.size (.slice (some ⟨w.heap.size, 0, none⟩) n n) (List.replicate n z) → Below w.heap.size w w' → wpList Tryd.prog ops Q rest (act.put o.dst (.slice (some ⟨w.heap.size, 0, none⟩) n n)) w') : wpList Tryd.prog ops Q (o :: rest) act w := by
  obtain ⟨i, zz, hi, hz, hsz, hby, hzc⟩ := info_open hinfo
  refine wpList_make_full w hgd l c t ho w.heap.size e i zz sz ht hi hz hsz .i64 .i64 L C n hl hc hL hC (by rw [hby, Nat.mul_comm]; exact Nat.le_trans hn (by decide)) (by unfold maxLen; omega) (Nat.le_refl _) ?_
  intro w' h1 h2
  refine h w' ?_ ((Below.refl _ _).grown h2 (Nat.le_refl _) (by intro k e; cases e))
  unfold LOwn
  rw [made_flat hf h0 z hzc] at h1
  rw [List.length_replicate]
  exact h1
theorem conv_lay (w : World) (S : ByteArray) (n : Nat) (hn : S.size = n) (hm : n ≤ 140737488351232) : ∃ c w', (convert 9 70 (.string S)).run Tryd.prog w = .ok (.slice (some ⟨w.heap.size, 0, none⟩) n c) w' ∧ Bts w' (some ⟨w.heap.size, 0, none⟩) n c (bytesOf S) ∧ Below w.heap.size w w' := by
  subst hn
  refine ⟨_, _, run_bytes_of_string (P := Tryd.prog) w 9 70 5 S Tryd.underlying9 Tryd.underlying70 Tryd.underlying5, ?_, ?_⟩
  · refine Bts.below (w := w.alloc _) ?_ ((Below.refl _ _).drew)
    refine ⟨bytesOf_len S, by omega, grownCap_ge _ _ _ _, bytesOf_lt S, fun e => by simp at e, fun k hk => ⟨_, _, rfl, (S.data[k]'hk).toNat, ?_, ?_⟩⟩
    · unfold bytesOf
      rw [List.getElem?_map, Array.getElem?_toList, Array.getElem?_eq_getElem hk]
      rfl
    · rw [Nat.zero_add, cell_of_row _ _ k _ _ _ (heap_alloc_new _ _)]
      exact bytesRow_at S _ k hk
  · exact ((Below.refl _ _).alloc (Nat.le_refl _) _).drew
/-- A block that holds these cells. -/
def Bk (w : World) (b : Nat) (cs : List Value) (t : TypeId) : Prop := w.heap[b]? = some (.cells cs.toArray t (0, 0))
theorem Bk.lt {w : World} {b : Nat} {cs : List Value} {t : TypeId} (h : Bk w b cs t) : b < w.heap.size := (Array.getElem?_eq_some_iff.1 h).1
theorem Bk.below {w w' : World} {b : Nat} {cs : List Value} {t : TypeId} (h : Bk w b cs t) (hb : Below w.heap.size w w') : Bk w' b cs t := by
  have h1 := h.lt
  unfold Bk at *
  rw [hb.block b h1]
  exact h
theorem Bk.cell {w : World} {b : Nat} {cs : List Value} {t : TypeId} (h : Bk w b cs t) (i : Nat) {v : Value} (hi : cs[i]? = some v) : w.cell? ⟨b, i, none⟩ = some v := by
  rw [cell_of_row w b i _ _ _ h]
  simpa using hi
theorem Bk.frozen {w : World} {b : Nat} {cs : List Value} {t : TypeId} (h : Bk w b cs t) (i : Nat) : w.frozen? ⟨b, i, none⟩ = false := frozen_of_row w b i _ _ h
theorem Bk.new (w : World) (cs : List Value) (t : TypeId) : Bk (w.alloc (.cells cs.toArray t)) w.heap.size cs t := by
  unfold Bk World.alloc
  simp
theorem Bk.set {w : World} {b : Nat} {cs : List Value} {t : TypeId} (h : Bk w b cs t) (i : Nat) (v : Value) : Bk (w.setCell ⟨b, i, none⟩ v) b (cs.set i v) t := by
  unfold Bk at *
  rw [heap_setCell_same w b i _ _ _ h]
  simp
theorem Bk.other {w : World} {b : Nat} {cs : List Value} {t : TypeId} (h : Bk w b cs t) (a : Addr) (v : Value) (hg : b ≠ a.block) : Bk (w.setCell a v) b cs t := by
  unfold Bk at *
  rw [heap_setCell_other w a b v hg]
  exact h
theorem ownsRow_far {w : World} {base : Nat} {e : TypeId} {sz : Nat} {v : Value} {n : Nat} {cs : List Value} (h : w.ownsRow base e sz v n cs) {p : Addr} (hne : v.ownBlock ≠ some p.block) (u : Value) : (w.setCell p u).ownsRow base e sz v n cs := by
  refine ⟨h.1, ?_⟩
  rcases h.2 with hn | ⟨g, cap, cur, rfl, hb, hgg, rest⟩
  · exact .inl hn
  · refine .inr ⟨g, cap, cur, rfl, hb, ?_, rest⟩
    rw [heap_setCell_other w p g u (fun e => hne (by simp [Value.ownBlock, e]))]
    exact hgg
theorem LOwn.far {α : Type} {f : α → List Value} {sz : Nat} {e : TypeId} {w : World} {base : Nat} {v : Value} {l : List α} (h : LOwn f sz e w base v l) {p : Addr} (hne : v.ownBlock ≠ some p.block) (u : Value) : LOwn f sz e (w.setCell p u) base v l := ownsRow_far h hne u
theorem box1 (w : World) (c0 : List Value) (t0 : TypeId) : ∃ W, w.alloc (.cells c0.toArray t0) = W ∧ Bk W w.heap.size c0 t0 ∧ Below w.heap.size w W :=
  ⟨_, rfl, Bk.new w c0 t0, (Below.refl _ _).alloc (Nat.le_refl _) _⟩
theorem box2 (w : World) (c0 : List Value) (t0 : TypeId) (c1 : List Value) (t1 : TypeId) : ∃ W, (w.alloc (.cells c0.toArray t0)).alloc (.cells c1.toArray t1) = W ∧ Bk W w.heap.size c0 t0 ∧ Bk W (w.heap.size + 1) c1 t1 ∧ Below w.heap.size w W := by
  have h0 : (w.alloc (.cells c0.toArray t0)).heap.size = w.heap.size + 1 := Array.size_push _
  have D1 := (Below.refl _ (w.alloc (.cells c0.toArray t0))).alloc (Nat.le_refl _) (.cells c1.toArray t1)
  have B1 := Bk.new (w.alloc (.cells c0.toArray t0)) c1 t1
  rw [h0] at B1
  exact ⟨_, rfl, (Bk.new w c0 t0).below D1, B1, chain ((Below.refl _ _).alloc (Nat.le_refl _) _) D1⟩
theorem box3 (w : World) (c0 : List Value) (t0 : TypeId) (c1 : List Value) (t1 : TypeId) (c2 : List Value) (t2 : TypeId) : ∃ W, ((w.alloc (.cells c0.toArray t0)).alloc (.cells c1.toArray t1)).alloc (.cells c2.toArray t2) = W ∧ Bk W w.heap.size c0 t0 ∧ Bk W (w.heap.size + 1) c1 t1 ∧ Bk W (w.heap.size + 2) c2 t2 ∧ Below w.heap.size w W := by
  obtain ⟨W, e, B0, B1, D⟩ := box2 w c0 t0 c1 t1
  have hs : W.heap.size = w.heap.size + 2 := by
    rw [← e]
    unfold World.alloc
    simp
  have D1 := (Below.refl _ W).alloc (Nat.le_refl _) (.cells c2.toArray t2)
  have B2 := Bk.new W c2 t2
  rw [hs] at B2
  rw [e]
  exact ⟨_, rfl, B0.below D1, B1.below D1, B2, chain D D1⟩
theorem box4 (w : World) (c0 : List Value) (t0 : TypeId) (c1 : List Value) (t1 : TypeId) (c2 : List Value) (t2 : TypeId) (c3 : List Value) (t3 : TypeId) : ∃ W, (((w.alloc (.cells c0.toArray t0)).alloc (.cells c1.toArray t1)).alloc (.cells c2.toArray t2)).alloc (.cells c3.toArray t3) = W ∧ Bk W w.heap.size c0 t0 ∧ Bk W (w.heap.size + 1) c1 t1 ∧ Bk W (w.heap.size + 2) c2 t2 ∧ Bk W (w.heap.size + 3) c3 t3 ∧ Below w.heap.size w W := by
  obtain ⟨W, e, B0, B1, B2, D⟩ := box3 w c0 t0 c1 t1 c2 t2
  have hs : W.heap.size = w.heap.size + 3 := by
    rw [← e]
    unfold World.alloc
    simp
  have D1 := (Below.refl _ W).alloc (Nat.le_refl _) (.cells c3.toArray t3)
  have B3 := Bk.new W c3 t3
  rw [hs] at B3
  rw [e]
  exact ⟨_, rfl, B0.below D1, B1.below D1, B2.below D1, B3, chain D D1⟩
theorem Bk.others {b : Nat} {cs : List Value} {t : TypeId} {g : Nat} (hg : b ≠ g) : ∀ (vs : List Value) (o : Nat) {w : World}, Bk w b cs t → Bk (w.setCells g o vs) b cs t
  | [], _, _, h => h
  | v :: vs, o, w, h => Bk.others hg vs (o + 1) (h.other ⟨g, o, none⟩ v hg)
theorem Bk.setsL {b : Nat} {t : TypeId} : ∀ (vs : List Value) (o : Nat) {w : World} {cs : List Value}, Bk w b cs t → Bk (w.setCells b o vs) b (setL cs o vs) t
  | [], _, _, _, h => h
  | v :: vs, o, w, cs, h => Bk.setsL vs (o + 1) (h.set o v)
theorem Bk.sets {b : Nat} {t : TypeId} {w : World} {cs : List Value} (h : Bk w b cs t) (vs : List Value) (hl : cs.length = vs.length) : Bk (w.setCells b 0 vs) b vs t := by
  have h1 := h.setsL vs 0
  have h2 := setL_all vs cs [] hl
  rw [List.append_nil, List.append_nil] at h2
  rw [h2] at h1
  exact h1
theorem below_sets {B g : Nat} {a : World} (hg : B ≤ g) : ∀ (vs : List Value) (o : Nat) {w : World}, Below B a w → Below B a (w.setCells g o vs)
  | [], _, _, h => h
  | v :: vs, o, w, h => below_sets hg vs (o + 1) (h.setCell (p := ⟨g, o, none⟩) hg v)
theorem LOwn.fars {α : Type} {f : α → List Value} {sz : Nat} {e : TypeId} {base : Nat} {v : Value} {l : List α} {g : Nat} (hne : v.ownBlock ≠ some g) : ∀ (vs : List Value) (o : Nat) {w : World}, LOwn f sz e w base v l → LOwn f sz e (w.setCells g o vs) base v l
  | [], _, _, h => h
  | u :: vs, o, w, h => LOwn.fars hne vs (o + 1) (h.far (p := ⟨g, o, none⟩) hne u)
theorem LOwn.off {α : Type} {f : α → List Value} {sz : Nat} {e : TypeId} {w : World} {base : Nat} {v : Value} {l : List α} (h : LOwn f sz e w base v l) {g : Nat} (hg : g < base) : v.ownBlock ≠ some g := fun e => by
  have := (World.ownsRow.lt h g e).1
  omega
/-- All blocks of the earlier world but those of S are as they were. -/
structure Frm (S : Nat → Prop) (w w' : World) : Prop where
  os : w'.os = w.os
  tape : w'.tape = w.tape
  output : w'.output = w.output
  size : w.heap.size ≤ w'.heap.size
  block : ∀ k, k < w.heap.size → ¬ S k → w'.heap[k]? = w.heap[k]?
theorem Frm.refl (S : Nat → Prop) (w : World) : Frm S w w := ⟨rfl, rfl, rfl, Nat.le_refl _, fun _ _ _ => rfl⟩
theorem Frm.trans {S T : Nat → Prop} {a b c : World} (h : Frm S a b) (k : Frm T b c) (hT : ∀ j, j < a.heap.size → T j → S j) : Frm S a c :=
  ⟨k.os.trans h.os, k.tape.trans h.tape, k.output.trans h.output, Nat.le_trans h.size k.size, fun j hj hn => (k.block j (Nat.lt_of_lt_of_le hj h.size) (fun t => hn (hT j hj t))).trans (h.block j hj hn)⟩
theorem Frm.mono {S T : Nat → Prop} {a b : World} (h : Frm S a b) (hT : ∀ j, j < a.heap.size → S j → T j) : Frm T a b :=
  ⟨h.os, h.tape, h.output, h.size, fun j hj hn => h.block j hj (fun t => hn (hT j hj t))⟩
theorem Frm.drew {S : Nat → Prop} {a w : World} (h : Frm S a w) : Frm S a w.drew := ⟨h.os, h.tape, h.output, h.size, h.block⟩
theorem Frm.ofBelow {S : Nat → Prop} {w w' : World} (h : Below w.heap.size w w') : Frm S w w' := ⟨h.os, h.tape, h.output, h.size, fun k hk _ => h.block k hk⟩
theorem Frm.below {S : Nat → Prop} {w w' : World} {B : Nat} (h : Frm S w w') (hB : B ≤ w.heap.size) (hS : ∀ k, S k → B ≤ k) : Below B w w' :=
  ⟨h.os, h.tape, h.output, h.size, fun k hk => h.block k (Nat.lt_of_lt_of_le hk hB) (fun s => by have := hS k s; omega)⟩
theorem Frm.cell {S : Nat → Prop} {w w' : World} {p : Addr} {v : Value} (h : Frm S w w') (hc : w.cell? p = some v) (hn : ¬ S p.block) : w'.cell? p = some v := by
  rw [← hc]
  exact World.cell?_of_block (w := w) (h.block p.block (block_lt_of_cell hc) hn)
theorem Frm.frozen {S : Nat → Prop} {w w' : World} {p : Addr} {v : Value} (h : Frm S w w') (hc : w.cell? p = some v) (hn : ¬ S p.block) : w'.frozen? p = w.frozen? p :=
  World.frozen?_of_block (w := w) (h.block p.block (block_lt_of_cell hc) hn)
theorem frm_setCell (w : World) (p : Addr) (u : Value) : Frm (fun k => k = p.block) w (w.setCell p u) :=
  ⟨rfl, rfl, rfl, by simp [World.setCell], fun k hk hn => Below.heap_setCell _ _ _ _ hn⟩
theorem frm_alloc (S : Nat → Prop) (w : World) (o : Obj) : Frm S w (w.alloc o) := Frm.ofBelow ((Below.refl _ _).alloc (Nat.le_refl _) o)
theorem frm_grown {w w' : World} {row : Option Nat} (h : w.grownBy w' row) : Frm (fun k => row = some k) w w' :=
  ⟨h.os, h.tape, h.output, h.size, fun k hk hn => h.block k hk (fun e => hn e.symm)⟩
end Go.Proofs.YthcmeboepedelaaDoor
