/-
  Instructions as numbers: the form by the table, the ranges of the fields, the instruction of a word.
-/
import Derived.Test.YthcmeboepedelaaDoorBase
namespace Go.Proofs.YthcmeboepedelaaDoor
open Go.RowKit FerryCrc
set_option linter.unusedVariables false
set_option linter.unusedSimpArgs false

/-- The form of an instruction's number; 0: there is none. -/
def form (op : Int) : Nat :=
  if 1 ≤ op ∧ op ≤ 15 then 1 else if op = 16 ∨ (32 ≤ op ∧ op ≤ 37) ∨ (48 ≤ op ∧ op ≤ 53) then 2
  else if 17 ≤ op ∧ op ≤ 19 then 3 else if op = 20 then 4 else if op = 54 then 5 else if op = 55 then 6 else if op = 64 then 7 else 0
theorem form_le (op : Int) : form op ≤ 7 := by
  unfold form
  repeat' split
  all_goals omega
/-- An instruction's fields. -/
structure Ins where
  op : Int
  a : Int
  b : Int
  c : Int
  imm : Int
def Ins.cells (i : Ins) : Array Value := #[.int .i64 i.op, .int .i64 i.a, .int .i64 i.b, .int .i64 i.c, .int .i64 i.imm]
def noIns : Ins := ⟨0, 0, 0, 0, 0⟩
/-- The greatest A, B, C, the least and the greatest Imm of a form. -/
def hiA (f : Nat) : Int := [0, 15, 15, 15, 15, 15, 0, 0].getD f 0
def hiB (f : Nat) : Int := [0, 15, 15, 15, 0, 0, 15, 0].getD f 0
def hiC (f : Nat) : Int := [0, 15, 0, 0, 0, 0, 0, 0].getD f 0
def loI (f : Nat) : Int := [0, 0, -32768, 0, 0, -32768, -32768, 0].getD f 0
def hiI (f : Nat) : Int := [0, 0, 32767, 65535, 65535, 32767, 32767, 65535].getD f 0
def bA (i : Ins) : Bool := decide (0 ≤ i.a) && decide (i.a ≤ hiA (form i.op))
def bB (i : Ins) : Bool := decide (0 ≤ i.b) && decide (i.b ≤ hiB (form i.op))
def bC (i : Ins) : Bool := decide (0 ≤ i.c) && decide (i.c ≤ hiC (form i.op))
def bI (i : Ins) : Bool := decide (loI (form i.op) ≤ i.imm) && decide (i.imm ≤ hiI (form i.op))
/-- Is it an instruction? -/
def okI (i : Ins) : Bool := decide (form i.op ≠ 0) && (bA i && (bB i && (bC i && bI i)))
/-- Sixteen bits with a sign. -/
def s16 (n : Nat) : Int := if n < 32768 then (n : Int) else (n : Int) - 65536
/-- What the program holds against the ranges. -/
def cand (w : Nat) : Ins :=
  let f := form ((w / 16777216 : Nat) : Int)
  ⟨((w / 16777216 : Nat) : Int), ((w / 1048576 % 16 : Nat) : Int), ((w / 65536 % 16 : Nat) : Int), if f = 1 then ((w / 4096 % 16 : Nat) : Int) else 0,
    if f = 1 then ((w % 4096 : Nat) : Int) else if f = 2 ∨ f = 5 ∨ f = 6 then s16 (w % 65536) else ((w % 65536 : Nat) : Int)⟩
/-- The instruction of a word; all zero where there is none. -/
def dec (w : Nat) : Ins := if okI (cand w) then cand w else noIns
end Go.Proofs.YthcmeboepedelaaDoor
