/-
  The document's Ack.
-/
import Derived.Test.YtdbciciljeainaaGreatDoorXrChk
import Derived.Test.YtdbciciljeainaaGreatDoorXfAdd
namespace Go.Proofs.YtdbciciljeainaaGreatDoor
open Go.RowKit FerryCrc
set_option linter.unusedVariables false
set_option linter.unusedSimpArgs false

theorem xid_neqb {b r m b2 r2 m2 : Int} {y : Bool} (hy : (b2 == b && r2 == r && m2 == m) = y) (w : World) : (binOp .neq 23 (.agg #[.int .i64 b2, .int .i64 r2, .int .i64 m2]) (.agg #[.int .i64 b, .int .i64 r, .int .i64 m])).run Tryz.prog w = .ok (.bool (!y)) w := by
  cases y with
  | true =>
    simp only [Bool.and_eq_true, beq_iff_eq] at hy
    obtain ⟨⟨rfl, rfl⟩, rfl⟩ := hy
    go_simp
  | false =>
    have h : ¬ (b2 = b ∧ r2 = r ∧ m2 = m) := by
      rintro ⟨rfl, rfl, rfl⟩
      simp at hy
    exact xid_neq h w
end Go.Proofs.YtdbciciljeainaaGreatDoor
