/-
  The program's Start, pieces and Due.
-/
import Derived.Test.YtdbciciljeainaaGreatDoorXfCut
namespace Go.Proofs.YtdbciciljeainaaGreatDoor
open Go.RowKit FerryCrc
set_option linter.unusedVariables false
set_option linter.unusedSimpArgs false

/-- A block that holds these cells. -/
def Bk (w : World) (b : Nat) (cs : List Value) (t : TypeId) : Prop := w.heap[b]? = some (.cells cs.toArray t (0, 0))
theorem Bk.lt {w : World} {b : Nat} {cs : List Value} {t : TypeId} (h : Bk w b cs t) : b < w.heap.size := (Array.getElem?_eq_some_iff.1 h).1
theorem Bk.below {w w' : World} {b : Nat} {cs : List Value} {t : TypeId} (h : Bk w b cs t) (hb : Below w.heap.size w w') : Bk w' b cs t := by
  have h1 := h.lt
  unfold Bk at *
  rw [hb.block b h1]
  exact h
theorem Bk.cell {w : World} {b : Nat} {cs : List Value} {t : TypeId} (h : Bk w b cs t) (i : Nat) {v : Value} (hi : cs[i]? = some v) : w.cell? ⟨b, i, none⟩ = some v := by
  rw [cell_of_row w b i _ _ _ h]
  simpa using hi
theorem Bk.frozen {w : World} {b : Nat} {cs : List Value} {t : TypeId} (h : Bk w b cs t) (i : Nat) : w.frozen? ⟨b, i, none⟩ = false := frozen_of_row w b i _ _ h
theorem Bk.new (w : World) (cs : List Value) (t : TypeId) : Bk (w.alloc (.cells cs.toArray t)) w.heap.size cs t := by
  unfold Bk World.alloc
  simp
theorem Bk.set {w : World} {b : Nat} {cs : List Value} {t : TypeId} (h : Bk w b cs t) (i : Nat) (v : Value) : Bk (w.setCell ⟨b, i, none⟩ v) b (cs.set i v) t := by
  unfold Bk at *
  rw [heap_setCell_same w b i _ _ _ h]
  simp
theorem Bk.other {w : World} {b : Nat} {cs : List Value} {t : TypeId} (h : Bk w b cs t) (a : Addr) (v : Value) (hg : b ≠ a.block) : Bk (w.setCell a v) b cs t := by
  unfold Bk at *
  rw [heap_setCell_other w a b v hg]
  exact h
theorem ownsRow_far {w : World} {base : Nat} {e : TypeId} {sz : Nat} {v : Value} {n : Nat} {cs : List Value} (h : w.ownsRow base e sz v n cs) {p : Addr} (hne : v.ownBlock ≠ some p.block) (u : Value) : (w.setCell p u).ownsRow base e sz v n cs := by
  refine ⟨h.1, ?_⟩
  rcases h.2 with hn | ⟨g, cap, cur, rfl, hb, hgg, rest⟩
  · exact .inl hn
  · refine .inr ⟨g, cap, cur, rfl, hb, ?_, rest⟩
    rw [heap_setCell_other w p g u (fun e => hne (by simp [Value.ownBlock, e]))]
    exact hgg
theorem LOwn.far {α : Type} {f : α → List Value} {sz : Nat} {e : TypeId} {w : World} {base : Nat} {v : Value} {l : List α} (h : LOwn f sz e w base v l) {p : Addr} (hne : v.ownBlock ≠ some p.block) (u : Value) : LOwn f sz e (w.setCell p u) base v l := ownsRow_far h hne u
/-- make of n records, as a run. -/
theorem made_recs {α : Type} {f : α → List Value} {sz byt : Nat} (hf : ∀ x, (f x).length = sz) (h0 : 0 < sz) (z : α) {t e : TypeId} (ht : Tryz.prog.underlying t = some (.slice e)) (hinfo : (Tryz.prog.info? e).map (fun i => (i.size, i.bytes, i.zero.map (·.cells))) = some (sz, byt, some (f z).toArray))
    (w : World) (n : Nat) (hn : n * byt ≤ 140737488355328) (hn2 : n ≤ 140737488355328) :
    ∃ w', (Instr.makeSlice t (.int .i64 (n : Int)) (.int .i64 (n : Int))).run Tryz.prog w = .ok (.slice (some ⟨w.heap.size, 0, none⟩) n n) w' ∧ LOwn f sz e w' w.heap.size (.slice (some ⟨w.heap.size, 0, none⟩) n n) (List.replicate n z) ∧ Below w.heap.size w w' := by
  obtain ⟨i, zz, hi, hz, hsz, hby, hzc⟩ := info_open hinfo
  obtain ⟨w', hrun, h1, h2⟩ := run_make_full (P := Tryz.prog) w w.heap.size t e i zz sz ht hi hz hsz .i64 .i64 n (by rw [hby, Nat.mul_comm]; exact Nat.le_trans hn (by decide)) (by unfold maxLen; omega) (Nat.le_refl _)
  refine ⟨w', hrun, ?_, (Below.refl _ _).grown h2 (Nat.le_refl _) (by intro k e; cases e)⟩
  unfold LOwn
  rw [made_flat hf h0 z hzc] at h1
  rw [List.length_replicate]
  exact h1
/-- A Send, as its cells; v is the list Acked. -/
structure Sd where
  (part boot peer num stage : Int) (image : ByteArray) (rounds : Int)
def Sd.cells (s : Sd) (v : Value) : List Value := [.int .i64 s.part, .int .i64 s.boot, .int .i64 s.peer, .int .i64 s.num, .int .i64 s.stage, .string s.image, v, .int .i64 s.rounds]
def zSd : Sd := ⟨0, 0, 0, 0, 0, ⟨#[]⟩, 0⟩
def startS (pt b r m st : Int) (L : List Nat) : Sd := if cutE pt b r m st L.length = 0 then ⟨pt, b, r, m, st, str L, 0⟩ else zSd
def startA (pt b r m st : Int) (L : List Nat) : List Bool := if cutE pt b r m st L.length = 0 then List.replicate (tot L) false else []
theorem cutN_len (pt b r m st : Int) (L : List Nat) : (cutN pt b r m st L).length = tot L := by simp [cutN]
theorem cutL_len {pt b r m st : Int} {L : List Nat} (h : cutE pt b r m st L.length = 0) : (cutL pt b r m st L).length = tot L := by
  unfold cutL
  rw [if_pos h, cutN_len]
theorem cutE_ok {pt b r m st : Int} {n : Nat} (h : cutE pt b r m st n = 0) : 1 ≤ n ∧ n ≤ 4096 := by
  unfold cutE at h
  split at h
  · split at h
    · cases h
    · omega
  · cases h
theorem cutE_cases (pt b r m st : Int) (n : Nat) : cutE pt b r m st n = 0 ∨ cutE pt b r m st n = 11 ∨ cutE pt b r m st n = 12 := by
  unfold cutE
  split
  · split
    · exact .inr (.inl rfl)
    · exact .inl rfl
  · exact .inr (.inr rfl)

end Go.Proofs.YtdbciciljeainaaGreatDoor
