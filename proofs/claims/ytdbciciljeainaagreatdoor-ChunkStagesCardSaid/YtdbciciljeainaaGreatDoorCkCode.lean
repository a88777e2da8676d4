/-
  The law's code; the document's Put.
-/
import Derived.Test.YtdbciciljeainaaGreatDoorCkKnown
import Derived.Test.YtdbciciljeainaaGreatDoorErrHitQ
import Derived.Test.YtdbciciljeainaaGreatDoorPlainQ
namespace Go.Proofs.YtdbciciljeainaaGreatDoor
open Go.RowKit FerryCrc
set_option linter.unusedVariables false
set_option linter.unusedSimpArgs false

set_option maxRecDepth 100000 in
theorem lcode_any {w : World} {E : Nat → Addr} (he : Errs w E) (i : Nat) (hi : i ≤ 20) :
    Calls Tryz.prog 13 #[erv E i] w fun e w' => e = .returned (.int .i64 (i : Int)) ∧ Below w.heap.size w w' := by
  have hv := erv_bare E i hi
  have H1 := hide (place_bare he _ i hv)
  have HE := hide he
  have HV := hide hv
  clear he hv
  generalize erv E i = v at *
  go_enter Tryz.func13, Tryz.ntmps13
  go_wp2_with fail
  refine Calls.mono H1.out ?_
  rintro e w1 ⟨rfl, b1⟩
  have H2 := hide (code_any (HE.out.below b1) _ i _ (HV.out.err (w := w1)))
  have B1 := hide b1
  clear b1
  go_wp2_with fail
  refine Calls.mono H2.out ?_
  rintro e w2 ⟨rfl, rfl⟩
  go_wp2
  go_ret
  exact ⟨rfl, B1.out⟩

end Go.Proofs.YtdbciciljeainaaGreatDoor
