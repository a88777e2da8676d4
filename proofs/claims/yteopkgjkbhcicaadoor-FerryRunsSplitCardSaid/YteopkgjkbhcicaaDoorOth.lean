/-
  Worlds that differ in one block alone (and in what was made since).
-/
import Derived.Test.YteopkgjkbhcicaaDoorBase
namespace Go.Proofs.YteopkgjkbhcicaaDoor
open Go.RowKit FerryCrc
set_option linter.unusedVariables false

/-- All blocks but o are as they were. -/
structure Oth (o : Option Nat) (w w' : World) : Prop where
  os : w'.os = w.os
  tape : w'.tape = w.tape
  output : w'.output = w.output
  size : w.heap.size ≤ w'.heap.size
  block : ∀ k, k < w.heap.size → o ≠ some k → w'.heap[k]? = w.heap[k]?
theorem Oth.refl (o : Option Nat) (w : World) : Oth o w w := ⟨rfl, rfl, rfl, Nat.le_refl _, fun _ _ _ => rfl⟩
theorem Oth.setCell {g j : Nat} {a w : World} (h : Oth (some g) a w) (u : Value) : Oth (some g) a (w.setCell ⟨g, j, none⟩ u) :=
  ⟨h.os, h.tape, h.output, by simpa [World.setCell] using h.size, fun k hk hn => (heap_setCell_other w ⟨g, j, none⟩ k u (fun e => hn (by rw [e]))).trans (h.block k hk hn)⟩
theorem Oth.trans {o : Option Nat} {a b c : World} (h : Oth o a b) (k : Oth o b c) : Oth o a c :=
  ⟨k.os.trans h.os, k.tape.trans h.tape, k.output.trans h.output, Nat.le_trans h.size k.size, fun j hj hn => (k.block j (Nat.lt_of_lt_of_le hj h.size) hn).trans (h.block j hj hn)⟩
theorem Oth.ofBelow {o : Option Nat} {w w' : World} (h : Below w.heap.size w w') : Oth o w w' := ⟨h.os, h.tape, h.output, h.size, fun k hk _ => h.block k hk⟩
theorem Oth.below {o : Option Nat} {w w' : World} {B : Nat} (h : Oth o w w') (hB : B ≤ w.heap.size) (hS : ∀ k, o = some k → B ≤ k) : Below B w w' :=
  ⟨h.os, h.tape, h.output, h.size, fun k hk => h.block k (by omega) (fun e => by have := hS k e; omega)⟩
theorem Oth.cell {o : Option Nat} {w w' : World} {p : Addr} (h : Oth o w w') (hp : p.block < w.heap.size) (hn : o ≠ some p.block) : w'.cell? p = w.cell? p := by
  have := h.block p.block hp hn
  simp only [World.cell?, this]
theorem Oth.frozen {o : Option Nat} {w w' : World} {p : Addr} (h : Oth o w w') (hp : p.block < w.heap.size) (hn : o ≠ some p.block) : w'.frozen? p = w.frozen? p := by
  have := h.block p.block hp hn
  simp only [World.frozen?, this]
/-- All blocks but one, and the one in which a value's row lies, are as they were. -/
structure Mfr (mb : Nat) (v : Value) (w w' : World) : Prop where
  os : w'.os = w.os
  tape : w'.tape = w.tape
  output : w'.output = w.output
  size : w.heap.size ≤ w'.heap.size
  block : ∀ k, k < w.heap.size → k ≠ mb → v.ownBlock ≠ some k → w'.heap[k]? = w.heap[k]?
theorem Mfr.refl (mb : Nat) (v : Value) (w : World) : Mfr mb v w w := ⟨rfl, rfl, rfl, Nat.le_refl _, fun _ _ _ _ => rfl⟩
theorem Mfr.trans {mb : Nat} {v : Value} {a b c : World} (h : Mfr mb v a b) (k : Mfr mb v b c) : Mfr mb v a c :=
  ⟨k.os.trans h.os, k.tape.trans h.tape, k.output.trans h.output, Nat.le_trans h.size k.size, fun j hj h1 h2 => (k.block j (Nat.lt_of_lt_of_le hj h.size) h1 h2).trans (h.block j hj h1 h2)⟩
theorem Mfr.setCell {mb j : Nat} {v : Value} {a w : World} (h : Mfr mb v a w) (u : Value) : Mfr mb v a (w.setCell ⟨mb, j, none⟩ u) :=
  ⟨h.os, h.tape, h.output, by simpa [World.setCell] using h.size, fun k hk h1 h2 => (heap_setCell_other w ⟨mb, j, none⟩ k u h1).trans (h.block k hk h1 h2)⟩
theorem Mfr.ofBelow {mb : Nat} {v : Value} {w w' : World} (h : Below w.heap.size w w') : Mfr mb v w w' := ⟨h.os, h.tape, h.output, h.size, fun k hk _ _ => h.block k hk⟩
theorem Mfr.ofMb {mb : Nat} {v : Value} {w w' : World} (h : Oth (some mb) w w') : Mfr mb v w w' := ⟨h.os, h.tape, h.output, h.size, fun k hk h1 _ => h.block k hk (fun e => h1 (by injection e with e; exact e.symm))⟩
theorem Mfr.ofOwn {mb : Nat} {v : Value} {w w' : World} (h : Oth v.ownBlock w w') : Mfr mb v w w' := ⟨h.os, h.tape, h.output, h.size, fun k hk _ h2 => h.block k hk h2⟩
theorem Mfr.below {mb B : Nat} {v : Value} {w w' : World} (h : Mfr mb v w w') (hB : B ≤ w.heap.size) (hm : B ≤ mb) (hv : ∀ k, v.ownBlock = some k → B ≤ k) : Below B w w' :=
  ⟨h.os, h.tape, h.output, h.size, fun k hk => h.block k (by omega) (by omega) (fun e => by have := hv k e; omega)⟩
theorem Mfr.cell {mb : Nat} {v : Value} {w w' : World} {p : Addr} (h : Mfr mb v w w') (hp : p.block < w.heap.size) (h1 : p.block ≠ mb) (h2 : v.ownBlock ≠ some p.block) : w'.cell? p = w.cell? p := by
  have := h.block p.block hp h1 h2
  simp only [World.cell?, this]
theorem Mfr.frozen {mb : Nat} {v : Value} {w w' : World} {p : Addr} (h : Mfr mb v w w') (hp : p.block < w.heap.size) (h1 : p.block ≠ mb) (h2 : v.ownBlock ≠ some p.block) : w'.frozen? p = w.frozen? p := by
  have := h.block p.block hp h1 h2
  simp only [World.frozen?, this]
theorem Mfr.drew {mb : Nat} {v : Value} {a w : World} (h : Mfr mb v a w) : Mfr mb v a w.drew := ⟨h.os, h.tape, h.output, h.size, h.block⟩
end Go.Proofs.YteopkgjkbhcicaaDoor
