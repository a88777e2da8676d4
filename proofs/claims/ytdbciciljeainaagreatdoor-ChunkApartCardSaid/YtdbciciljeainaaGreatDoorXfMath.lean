/-
  Notes, transfers, what is sent and what has come, as the document has them: no program in it.
-/
import Derived.Test.YtdbciciljeainaaGreatDoorTiny
namespace Go.Proofs.YtdbciciljeainaaGreatDoor
set_option linter.unusedVariables false
set_option linter.unusedSimpArgs false

/-- A note. -/
structure Nt where
  kind : Int
  part : Int
  boot : Int
  peer : Int
  num : Int
  stage : Int
  index : Int
  total : Int
  sum : Int
  data : ByteArray
def Nt.cells (n : Nt) : List Value := [.int .i64 n.kind, .int .i64 n.part, .int .i64 n.boot, .int .i64 n.peer, .int .i64 n.num, .int .i64 n.stage, .int .i64 n.index, .int .i64 n.total, .int .u32 n.sum, .string n.data]
theorem nt10 (n : Nt) : n.cells.length = 10 := rfl
def okNum (x : Int) : Bool := decide (1 ≤ x) && decide (x ≤ 2147483647)
def okNm (p b r m : Int) : Bool := decide (0 ≤ p) && decide (p < 8) && okNum b && okNum r && okNum m
def okSt (s : Int) : Bool := s == 1 || s == 2
def okTot (t : Int) : Bool := decide (1 ≤ t) && decide (t ≤ 32)
def stagedN (n : Nt) : Bool := if n.kind = 1 ∨ n.kind = 7 ∨ n.kind = 2 ∨ n.kind = 3 then okSt n.stage else n.stage == 0
def countedN (n : Nt) : Bool := if n.kind = 1 ∨ n.kind = 7 then okTot n.total && decide (0 ≤ n.index) && decide (n.index < n.total) else n.index == 0 && n.total == 0
/-- Has that piece of so many this length? -/
def pieceOk (d : ByteArray) (i t : Int) : Bool := if i = t - 1 then decide (1 ≤ d.size) && decide (d.size ≤ 128) else d.size == 128
def filledN (n : Nt) : Bool := if n.kind = 1 then n.sum == 0 && pieceOk n.data n.index n.total else decide (n.data.size = 0) && (n.sum == 0 || n.kind == 2)
def nmN (n : Nt) : Bool := okNm n.part n.boot n.peer n.num
/-- The code of a note's form. -/
def chk (n : Nt) : Nat := if n.kind < 1 ∨ 7 < n.kind then 7 else if nmN n && stagedN n && countedN n && filledN n then 0 else 4
/-- What can be a note's numbers. -/
structure Nt.Ok (n : Nt) : Prop where
  k1 : -9223372036854775808 ≤ n.kind
  k2 : n.kind ≤ 9223372036854775807
  t1 : -9223372036854775808 ≤ n.total
  t2 : n.total ≤ 9223372036854775807
  i1 : -9223372036854775808 ≤ n.index
  i2 : n.index ≤ 9223372036854775807
  d1 : n.data.size ≤ 9223372036854775807
theorem okNum_iff {x : Int} : okNum x = true ↔ 1 ≤ x ∧ x ≤ 2147483647 := by simp [okNum]
theorem okTot_iff {x : Int} : okTot x = true ↔ 1 ≤ x ∧ x ≤ 32 := by simp [okTot]
theorem okSt_iff {x : Int} : okSt x = true ↔ x = 1 ∨ x = 2 := by simp [okSt]
theorem okNm_iff {p b r m : Int} : okNm p b r m = true ↔ (0 ≤ p ∧ p < 8) ∧ okNum b = true ∧ okNum r = true ∧ okNum m = true := by
  simp [okNm, and_assoc]
end Go.Proofs.YtdbciciljeainaaGreatDoor
