/-
  A process on its memory as plain data: what an instruction does, a step, a run.
-/
import Derived.Test.YteopkgjkbhcicaaDoorIsMath
import Derived.Test.YteopkgjkbhcicaaDoorIsFet
import Derived.Test.YteopkgjkbhcicaaDoorPgPoke
import Derived.Test.YteopkgjkbhcicaaDoorAlu
namespace Go.Proofs.YteopkgjkbhcicaaDoor
open Go.RowKit FerryCrc FerryAlu
set_option linter.unusedVariables false
set_option linter.unusedSimpArgs false

/-- A process on its memory. -/
structure Mc where
  pages : List Pg
  regs : List Nat
  pc : Nat
  st : Int
  prio : Int
  wait : Int
  obj : Int
structure Mc.Ok (m : Mc) : Prop where
  ok : Oks m.pages
  most : m.pages.length ≤ 1759218604391
  size : m.regs.length = 16
  small : ∀ r ∈ m.regs, r < 4294967296
  pc : m.pc < 4294967296
def u32v (n : Nat) : Value := .int .u32 (n : Int)
/-- The process's cells. -/
def Mc.proc (m : Mc) : List Value := m.regs.map u32v ++ [.int .u32 (m.pc : Int), .int .i64 m.st, .int .i64 m.prio, .int .i64 m.wait, .int .i64 m.obj]
def Mc.reg (m : Mc) (k : Nat) : Nat := m.regs.getD k 0
def Mc.setR (m : Mc) (k v : Nat) : Mc := if k = 0 then m else { m with regs := m.regs.set k v }
def Mc.setP (m : Mc) (p : Nat) : Mc := { m with pc := p }
def Mc.adr (m : Mc) (i : Ins) : Nat := (m.reg i.b.toNat + un i.imm) % 4294967296
/-- The bytes that an instruction loads or stores. -/
def szI (op : Int) : Nat := if op = 32 ∨ op = 35 then 4 else if op = 33 ∨ op = 36 then 2 else 1
theorem szI_sized (op : Int) : Sized (szI op) := by
  unfold szI Sized
  split
  · right; right; rfl
  · split
    · right; left; rfl
    · left; rfl
/-- What the arithmetic answers; none: an error. -/
def aluV (op : Int) (b c : Nat) : Option Nat :=
  if op = 1 then some ((b + c) % 4294967296) else if op = 2 then some ((b + 4294967296 - c) % 4294967296) else if op = 3 then some (b &&& c) else if op = 4 then some (b ||| c)
  else if op = 5 then some (b ^^^ c) else if op = 6 then some (b * 2 ^ (c % 32) % 4294967296) else if op = 7 then some (b / 2 ^ (c % 32)) else if op = 8 then some (un (sg b / (2 ^ (c % 32) : Nat)))
  else if op = 9 then some (b * c % 4294967296) else if op = 14 then some (decide (b < c)).toNat else if op = 15 then some (decide (sg b < sg c)).toNat
  else if c = 0 then none else if op = 10 then some (b / c) else if op = 11 then some (un ((sg b).tdiv (sg c))) else if op = 12 then some (b % c) else some (un ((sg b).tmod (sg c)))
def tstV (op : Int) (b c : Nat) : Bool :=
  if op = 48 then (b : Int) == (c : Int) else if op = 49 then (b : Int) != (c : Int) else if op = 50 then decide (b < c) else if op = 51 then decide (sg b < sg c) else if op = 52 then decide (c ≤ b) else decide (sg c ≤ sg b)
/-- What a computing instruction answers. -/
def Mc.cmp (m : Mc) (i : Ins) : Option Nat :=
  if i.op = 20 then some (un i.imm * 65536 % 4294967296) else if i.op = 16 then aluV 1 (m.reg i.b.toNat) (un i.imm) else if i.op = 17 then aluV 3 (m.reg i.b.toNat) (un i.imm)
  else if i.op = 18 then aluV 4 (m.reg i.b.toNat) (un i.imm) else if i.op = 19 then aluV 5 (m.reg i.b.toNat) (un i.imm) else aluV i.op (m.reg i.b.toNat) (m.reg i.c.toNat)
/-- What an instruction does; beside it the fault. -/
def Mc.doI (m : Mc) (i : Ins) : Mc × Nat :=
  if 32 ≤ i.op ∧ i.op ≤ 34 then
    (if nfault m.pages (m.adr i) (szI i.op) 0 = 0 then ((m.setR i.a.toNat (ldv m.pages (m.adr i) (szI i.op) 0)).setP ((m.pc + 4) % 4294967296), 0) else (m, nfault m.pages (m.adr i) (szI i.op) 0))
  else if 35 ≤ i.op ∧ i.op ≤ 37 then
    (if nfault m.pages (m.adr i) (szI i.op) 1 = 0 then ({ m with pages := pkv m.pages (m.adr i) (szI i.op) (m.reg i.a.toNat), pc := (m.pc + 4) % 4294967296 }, 0) else (m, nfault m.pages (m.adr i) (szI i.op) 1))
  else if 48 ≤ i.op ∧ i.op ≤ 53 then
    (m.setP (if tstV i.op (m.reg i.a.toNat) (m.reg i.b.toNat) then (m.pc + 4 + 4 * un i.imm) % 4294967296 else (m.pc + 4) % 4294967296), 0)
  else if i.op = 54 then ((m.setR i.a.toNat ((m.pc + 4) % 4294967296)).setP ((m.pc + 4 + 4 * un i.imm) % 4294967296), 0)
  else if i.op = 55 then (m.setP (m.adr i), 0)
  else if i.op = 64 then (m.setP ((m.pc + 4) % 4294967296), 0)
  else match m.cmp i with
    | some v => ((m.setR i.a.toNat v).setP ((m.pc + 4) % 4294967296), 0)
    | none => (m, 7)
/-- One step: the machine, why it stops, the call or the fault. -/
def Mc.step (m : Mc) : Mc × Nat × Int :=
  if fCode m.pages m.pc ≠ 0 then (m, 2, (fCode m.pages m.pc : Int))
  else if (m.doI (fIns m.pages m.pc)).2 ≠ 0 then (m, 2, ((m.doI (fIns m.pages m.pc)).2 : Int))
  else if (fIns m.pages m.pc).op = 64 then ((m.doI (fIns m.pages m.pc)).1, 1, (fIns m.pages m.pc).imm)
  else ((m.doI (fIns m.pages m.pc)).1, 0, 0)
/-- A run under way. -/
structure Rn where
  m : Mc
  kind : Nat
  code : Int
  steps : Nat
def Rn.next (r : Rn) : Rn := if r.kind = 0 then ⟨r.m.step.1, r.m.step.2.1, r.m.step.2.2, r.steps + 1⟩ else r
def Rn.go : Nat → Rn → Rn
  | 0, r => r
  | n + 1, r => Rn.go n r.next
def Mc.from0 (m : Mc) : Mc := { m with regs := m.regs.set 0 0 }
/-- So many instructions from a process as it is handed in. -/
def Mc.run (m : Mc) (n : Nat) : Rn := Rn.go n ⟨m.from0, 0, 0, 0⟩

theorem Rn.go_succ (n : Nat) (r : Rn) : Rn.go (n + 1) r = (Rn.go n r).next := by
  induction n generalizing r with
  | zero => rfl
  | succ n ih => exact ih r.next
theorem Rn.go_add (a b : Nat) (r : Rn) : Rn.go (a + b) r = Rn.go b (Rn.go a r) := by
  induction a generalizing r with
  | zero => rw [Nat.zero_add]; rfl
  | succ a ih => rw [Nat.succ_add]; exact ih r.next
theorem Rn.go_still {n : Nat} {r : Rn} (h : r.kind ≠ 0) : Rn.go n r = r := by
  induction n with
  | zero => rfl
  | succ n ih => rw [Rn.go_succ, ih]; unfold Rn.next; rw [if_neg h]
theorem Rn.go_steps (n : Nat) (r : Rn) (h : (Rn.go n r).kind = 0) : (Rn.go n r).steps = r.steps + n := by
  induction n with
  | zero => rfl
  | succ n ih =>
    rw [Rn.go_succ] at h ⊢
    by_cases hk : (Rn.go n r).kind = 0
    · unfold Rn.next
      rw [if_pos hk]
      show (Rn.go n r).steps + 1 = _
      rw [ih hk]
      omega
    · unfold Rn.next at h
      rw [if_neg hk] at h
      exact absurd h hk
theorem Rn.go_le (n : Nat) (r : Rn) : (Rn.go n r).steps ≤ r.steps + n := by
  induction n with
  | zero => exact Nat.le_refl _
  | succ n ih =>
    rw [Rn.go_succ]
    unfold Rn.next
    split
    · show (Rn.go n r).steps + 1 ≤ _
      omega
    · omega
theorem Rn.go_shift (n : Nat) (m : Mc) (k : Nat) (c : Int) (s d : Nat) : Rn.go n ⟨m, k, c, s + d⟩ = ⟨(Rn.go n ⟨m, k, c, s⟩).m, (Rn.go n ⟨m, k, c, s⟩).kind, (Rn.go n ⟨m, k, c, s⟩).code, (Rn.go n ⟨m, k, c, s⟩).steps + d⟩ := by
  induction n with
  | zero => rfl
  | succ n ih =>
    rw [Rn.go_succ, Rn.go_succ, ih]
    unfold Rn.next
    simp only
    split
    · rw [Nat.add_right_comm]
    · rfl
end Go.Proofs.YteopkgjkbhcicaaDoor
