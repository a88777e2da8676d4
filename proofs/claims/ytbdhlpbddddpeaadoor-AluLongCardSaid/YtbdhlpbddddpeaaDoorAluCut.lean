/-
  Contracts of alu's Signed, Word, Sext, Field and Place, where they refuse nothing.
-/
import Derived.Test.YtbdhlpbddddpeaaDoorAlu
namespace Go.Proofs.YtbdhlpbddddpeaaDoor
open Go.RowKit FerryAlu
set_option linter.unusedVariables false

theorem w64_sg {x : Nat} (hx : x < 4294967296) : wrap64 (sg x) = sg x := by
  have h1 := sg_ge x
  have h2 := sg_le hx
  unfold wrap64
  omega

theorem signed_any (x : Nat) (w : World) (hx : x < 4294967296) :
    Calls Tryd.prog 12 #[.int .u32 (x : Int)] w fun e w' => e = .returned (.int .i64 (sg x)) ∧ w = w' := by
  have e2 := w32 hx
  have e3 := w64_sg hx
  go_enter Tryd.func12, Tryd.ntmps12
  go_wp2
  go_ret
  exact ⟨ret_int e3, rfl⟩

end Go.Proofs.YtbdhlpbddddpeaaDoor
