/-
  What api.Place says of errors that tell no place.
-/
import Derived.Test.YtnjabidelpafgaaDoorErrCode
namespace Go.Proofs.YtnjabidelpafgaaDoor
open Go.RowKit Go.Extern.Stop Go.Stop Go.Extern FerryCrc

/-- An error value of number i (0: none) that tells no place. -/
def Bare (E : Nat → Addr) (v : Value) (i : Nat) : Prop := (v = .nilIface ∧ i = 0) ∨ (1 ≤ i ∧ i ≤ 20 ∧ v = sent (E i))
theorem bare_nil (E : Nat → Addr) : Bare E .nilIface 0 := .inl ⟨rfl, rfl⟩
theorem bare_sent (E : Nat → Addr) (i : Nat) (h1 : 1 ≤ i) (h2 : i ≤ 20) : Bare E (sent (E i)) i := .inr ⟨h1, h2, rfl⟩

end Go.Proofs.YtnjabidelpafgaaDoor
