/-
  Bytes as strings and strings as bytes; lists of notes, of texts and of truths of one's own; whole records laid into a list.
-/
import Derived.Test.YtdbciciljeainaaGreatDoorXfChk
import Derived.Test.YtdbciciljeainaaGreatDoorBase
import Derived.Laws.BytesArg
import Derived.Laws.IdiomStrings
import Derived.OwnWalk
namespace Go.Proofs.YtdbciciljeainaaGreatDoor
open Go.RowKit FerryCrc
set_option linter.unusedVariables false
set_option linter.unusedSimpArgs false

/-- Bytes as a string. -/
def str (l : List Nat) : ByteArray := ⟨(l.map UInt8.ofNat).toArray⟩
/-- The bytes of a string. -/
def bytesOf (s : ByteArray) : List Nat := s.data.toList.map (·.toNat)
theorem bytesOf_lt (s : ByteArray) : ∀ c ∈ bytesOf s, c < 256 := by
  intro c hc
  obtain ⟨x, _, rfl⟩ := List.mem_map.1 hc
  exact x.toNat_lt
theorem str_bytesOf (s : ByteArray) : str (bytesOf s) = s := by
  obtain ⟨⟨l⟩⟩ := s
  simp [str, bytesOf, Function.comp_def]
theorem bytesOf_len (s : ByteArray) : (bytesOf s).length = s.size := by
  obtain ⟨⟨l⟩⟩ := s
  simp [bytesOf, ByteArray.size]
theorem str_len (l : List Nat) : (str l).size = l.length := by simp [str, ByteArray.size]
theorem str_app (a b : List Nat) : str a ++ str b = str (a ++ b) := by
  apply ByteArray.ext
  simp [str]
theorem bts_string {w : World} {a : Option Addr} {n c : Nat} {l : List Nat} (h : Bts w a n c l) : (convert 56 9 (.slice a n c)).run Tryz.prog w = .ok (.string (str l)) w := by
  match a, h with
  | none, h =>
    obtain ⟨rfl, rfl⟩ := h.null rfl
    obtain rfl : l = [] := List.length_eq_zero_iff.1 h.size
    exact run_convert_bytes_nil (P := Tryz.prog) w 56 5 Tryz.underlying56 Tryz.underlying5 0 0 9 Tryz.underlying9
  | some ad, h =>
    have := run_convert_bytes_back (P := Tryz.prog) w 56 9 5 ad c (l.map UInt8.ofNat) Tryz.underlying56 Tryz.underlying5 Tryz.underlying9 (fun j hj => by
      have hj' : j < l.length := by simpa using hj
      obtain ⟨b, off, ha, x, hl, hc⟩ := h.cell j (by rw [← h.size]; exact hj')
      simp only [Option.some.injEq] at ha
      subst ha
      rw [add_none, hc]
      have hlt := h.small x (List.mem_of_getElem? hl)
      have hx : l[j] = x := by rw [List.getElem?_eq_getElem hj'] at hl; simpa using hl
      simp [hx]
      omega)
    rw [List.length_map, h.size] at this
    exact this
/-- Cells laid over a row. -/
def setL : List Value → Nat → List Value → List Value
  | xs, _, [] => xs
  | xs, o, v :: vs => setL (xs.set o v) (o + 1) vs
theorem setL_past : ∀ (vs xs ys : List Value) (o : Nat), setL (xs ++ ys) (xs.length + o) vs = xs ++ setL ys o vs
  | [], _, _, _ => rfl
  | v :: vs, xs, ys, o => by
    show setL ((xs ++ ys).set (xs.length + o) v) (xs.length + o + 1) vs = xs ++ setL (ys.set o v) (o + 1) vs
    rw [List.set_append_right _ _ (by omega), show xs.length + o - xs.length = o by omega, show xs.length + o + 1 = xs.length + (o + 1) by omega]
    exact setL_past vs xs (ys.set o v) (o + 1)
theorem setL_all : ∀ (vs xs ys : List Value), xs.length = vs.length → setL (xs ++ ys) 0 vs = vs ++ ys
  | [], xs, ys, h => by
    obtain rfl : xs = [] := List.length_eq_zero_iff.1 h
    rfl
  | v :: vs, x :: xs, ys, h => by
    have h1 := setL_past vs [v] (xs ++ ys) 0
    have h2 := setL_all vs xs ys (by simpa using h)
    show setL (v :: (xs ++ ys)) (0 + 1) vs = v :: (vs ++ ys)
    rw [h2] at h1
    exact h1
theorem fl_setL {α : Type} {f : α → List Value} {sz : Nat} (hf : ∀ x, (f x).length = sz) : ∀ {l : List α} {k : Nat} {y : α}, k < l.length → setL (l.flatMap f) (k * sz) (f y) = (l.set k y).flatMap f
  | [], k, y, h => by simp at h
  | x :: l, 0, y, _ => by
    show setL (f x ++ l.flatMap f) (0 * sz) (f y) = f y ++ l.flatMap f
    rw [Nat.zero_mul]
    exact setL_all (f y) (f x) _ (by rw [hf, hf])
  | x :: l, k + 1, y, h => by
    have ih := fl_setL hf (l := l) (k := k) (y := y) (by simpa using h)
    show setL (f x ++ l.flatMap f) ((k + 1) * sz) (f y) = f x ++ (l.set k y).flatMap f
    rw [← ih, ← setL_past, hf, show (k + 1) * sz = sz + k * sz by rw [Nat.add_mul]; omega]
theorem grw_refl (w : World) (r : Option Nat) : w.grownBy w r := ⟨rfl, rfl, rfl, Nat.le_refl _, fun _ _ _ => rfl⟩
theorem grw_trans {w w1 w2 : World} {r : Option Nat} (h1 : w.grownBy w1 r) (h2 : w1.grownBy w2 r) : w.grownBy w2 r :=
  ⟨h2.os.trans h1.os, h2.tape.trans h1.tape, h2.output.trans h1.output, Nat.le_trans h1.size h2.size, fun k hk hn => (h2.block k (Nat.lt_of_lt_of_le hk h1.size) hn).trans (h1.block k hk hn)⟩
theorem own_setL {base : Nat} {e : TypeId} {size g n cap : Nat} : ∀ (vs : List Value) (o : Nat) (w : World) (xs : List Value), w.ownsRow base e size (.slice (some ⟨g, 0, none⟩) n cap) n xs →
    (w.setCells g o vs).ownsRow base e size (.slice (some ⟨g, 0, none⟩) n cap) n (setL xs o vs) ∧ w.grownBy (w.setCells g o vs) (some g)
  | [], _, w, _, h => ⟨h, grw_refl w _⟩
  | v :: vs, o, w, xs, h => by
    obtain ⟨h1, g1⟩ := World.ownsRow.stored h o v
    obtain ⟨h2, g2⟩ := own_setL vs (o + 1) _ _ h1
    exact ⟨h2, grw_trans g1 g2⟩
/-- A list of records of one's own. -/
def LOwn {α : Type} (f : α → List Value) (sz : Nat) (e : TypeId) (w : World) (base : Nat) (v : Value) (l : List α) : Prop := w.ownsRow base e sz v l.length (l.flatMap f)
theorem LOwn.below {α : Type} {f : α → List Value} {sz : Nat} {e : TypeId} {w w' : World} {base : Nat} {v : Value} {l : List α} (h : LOwn f sz e w base v l) (hb : Below w.heap.size w w') : LOwn f sz e w' base v l := ownsRow_below h hb
theorem LOwn.weaken {α : Type} {f : α → List Value} {sz : Nat} {e : TypeId} {w : World} {base base' : Nat} {v : Value} {l : List α} (h : LOwn f sz e w base v l) (hb : base' ≤ base) : LOwn f sz e w base' v l := ownsRow_weaken h hb
theorem LOwn.rcs {α : Type} {f : α → List Value} {sz : Nat} {e : TypeId} {w : World} {base : Nat} {v : Value} {l : List α} (h : LOwn f sz e w base v l) : ∃ a c, v = .slice a l.length c ∧ Rcs f sz w a l.length c l := by
  obtain ⟨a, c, e1, hr⟩ := RLk.row (.inl h)
  exact ⟨a, c, e1, rfl, hr⟩
theorem LOwn.put {α : Type} {f : α → List Value} {sz : Nat} {e : TypeId} (hf : ∀ x, (f x).length = sz) {w : World} {base g n cap : Nat} {l : List α} (h : LOwn f sz e w base (.slice (some ⟨g, 0, none⟩) n cap) l) (hn : l.length = n) {k : Nat} (hk : k < n) (y : α) :
    (∀ j, j < sz → (∃ u, w.cell? ⟨g, k * sz + j, none⟩ = some u) ∧ w.frozen? ⟨g, k * sz + j, none⟩ = false) ∧ LOwn f sz e (w.setCells g (k * sz) (f y)) base (.slice (some ⟨g, 0, none⟩) n cap) (l.set k y) ∧ w.grownBy (w.setCells g (k * sz) (f y)) (some g) ∧ base ≤ g ∧ g < w.heap.size := by
  subst hn
  obtain ⟨h1, h2⟩ := own_setL (f y) (k * sz) w _ h
  rw [fl_setL hf hk] at h1
  have hlt := World.ownsRow.lt h g rfl
  refine ⟨fun j hj => ⟨?_, World.ownsRow.frozenAt h _⟩, ?_, h2, hlt.1, hlt.2⟩
  · have hj2 : k * sz + j < l.length * sz := by
      have := Nat.mul_le_mul_right sz (show k + 1 ≤ l.length from hk)
      rw [Nat.add_mul] at this
      omega
    have hl := fl_len hf l
    refine ⟨_, (World.ownsRow.cellAt h (k * sz + j) hj2).trans (List.getElem?_eq_getElem (by omega))⟩
  · unfold LOwn
    rw [List.length_set]
    exact h1
/-- Notes. -/
abbrev NOwn (w : World) (base : Nat) (v : Value) (l : List Nt) : Prop := LOwn Nt.cells 10 33 w base v l
abbrev Nts (w : World) (a : Option Addr) (len cap : Nat) (l : List Nt) : Prop := Rcs Nt.cells 10 w a len cap l
def tv (s : ByteArray) : List Value := [.string s]
theorem tv1 (s : ByteArray) : (tv s).length = 1 := rfl
abbrev TxOwn (w : World) (base : Nat) (v : Value) (l : List ByteArray) : Prop := LOwn tv 1 9 w base v l
abbrev Txs (w : World) (a : Option Addr) (len cap : Nat) (l : List ByteArray) : Prop := Rcs tv 1 w a len cap l
def bvl (b : Bool) : List Value := [.bool b]
theorem bvl1 (b : Bool) : (bvl b).length = 1 := rfl
abbrev FlOwn (w : World) (base : Nat) (v : Value) (l : List Bool) : Prop := LOwn bvl 1 4 w base v l
abbrev Fls (w : World) (a : Option Addr) (len cap : Nat) (l : List Bool) : Prop := Rcs bvl 1 w a len cap l
/-- The i-th piece of an image. -/
def pcs (L : List Nat) (i : Nat) : ByteArray := str ((L.drop (i * 128)).take 128)
def tot (L : List Nat) : Nat := (L.length + 127) / 128
def ntOf (pt b r m st : Int) (L : List Nat) (i : Nat) : Nt := ⟨1, pt, b, r, m, st, (i : Int), (tot L : Int), 0, pcs L i⟩
def cutN (pt b r m st : Int) (L : List Nat) : List Nt := (List.range (tot L)).map (ntOf pt b r m st L)
def cutE (pt b r m st : Int) (n : Nat) : Nat := if okNm pt b r m && okSt st then (if n = 0 ∨ 4096 < n then 11 else 0) else 12
/-- What Cut answers. -/
def cutL (pt b r m st : Int) (L : List Nat) : List Nt := if cutE pt b r m st L.length = 0 then cutN pt b r m st L else []
def zNt : Nt := ⟨0, 0, 0, 0, 0, 0, 0, 0, 0, ByteArray.empty⟩
theorem infoNote : (Tryz.prog.info? 33).map (fun i => (i.size, i.bytes, i.zero.map (·.cells))) = some (10, 88, some zNt.cells.toArray) := by kernel_rfl
theorem infoTx : (Tryz.prog.info? 9).map (fun i => (i.size, i.bytes, i.zero.map (·.cells))) = some (1, 16, some (tv ByteArray.empty).toArray) := by kernel_rfl
theorem infoFl : (Tryz.prog.info? 4).map (fun i => (i.size, i.bytes, i.zero.map (·.cells))) = some (1, 1, some (bvl false).toArray) := by kernel_rfl
theorem info_open {P : Program} {t : TypeId} {s b : Nat} {z : Array Value} (h : (P.info? t).map (fun i => (i.size, i.bytes, i.zero.map (·.cells))) = some (s, b, some z)) : ∃ i v, P.info? t = some i ∧ i.zero = some v ∧ i.size = s ∧ i.bytes = b ∧ v.cells = z := by
  cases hi : P.info? t with
  | none => simp [hi] at h
  | some i =>
    simp only [hi, Option.map_some, Option.some.injEq, Prod.mk.injEq] at h
    obtain ⟨h1, h2, h3⟩ := h
    cases hz : i.zero with
    | none => simp [hz] at h3
    | some z => exact ⟨i, z, rfl, hz, h1, h2, by simpa [hz] using h3⟩
/-- make of n records. -/
theorem make_recs {α : Type} {f : α → List Value} {sz byt : Nat} (hf : ∀ x, (f x).length = sz) (h0 : 0 < sz) (z : α) {t e : TypeId} (ht : Tryz.prog.underlying t = some (.slice e)) (hinfo : (Tryz.prog.info? e).map (fun i => (i.size, i.bytes, i.zero.map (·.cells))) = some (sz, byt, some (f z).toArray))
    {w : World} {ops : Array Oper} {rest : List Oper} {o : Oper} {act : Act} {Q : Exit → Act → World → Prop} (hgd : o.guard = none) (l c : Operand)
    (ho : o.op = Op.makeSlice t l c) (L C : Int) (n : Nat) (hl : act.eval l = .int .i64 L) (hc : act.eval c = .int .i64 C) (hL : L = (n : Int)) (hC : C = (n : Int)) (hn : n * byt ≤ 140737488355328) (hn2 : n ≤ 140737488355328)
    (h : ∀ w', LOwn f sz e w' w.heap.size (.slice (some ⟨w.heap.size, 0, none⟩) n n) (List.replicate n z) → Below w.heap.size w w' → wpList Tryz.prog ops Q rest (act.put o.dst (.slice (some ⟨w.heap.size, 0, none⟩) n n)) w') : wpList Tryz.prog ops Q (o :: rest) act w := by
  obtain ⟨i, zz, hi, hz, hsz, hby, hzc⟩ := info_open hinfo
  refine wpList_make_full w hgd l c t ho w.heap.size e i zz sz ht hi hz hsz .i64 .i64 L C n hl hc hL hC (by rw [hby, Nat.mul_comm]; exact Nat.le_trans hn (by decide)) (by unfold maxLen; omega) (Nat.le_refl _) ?_
  intro w' h1 h2
  refine h w' ?_ ((Below.refl _ _).grown h2 (Nat.le_refl _) (by intro k e; cases e))
  unfold LOwn
  rw [made_flat hf h0 z hzc] at h1
  rw [List.length_replicate]
  exact h1
end Go.Proofs.YtdbciciljeainaaGreatDoor
