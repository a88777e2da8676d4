/-
  The errors of package api, and what errors.Is says of them: by contracts over Go's own text. An error is a sentinel (made by errors.New) or a pointer to an api.At that wraps one.
-/
import Derived.Test.YtnjabidelpafgaaDoorTiny
import Derived.LaidEql
import Derived.Stop.Asserts
import Derived.RowKitTokens
namespace Go.Proofs.YtnjabidelpafgaaDoor
open Go.RowKit Go.Extern.Stop Go.Stop Go.Extern FerryCrc

/-- The model's entries, under names of our own. -/
def entComparable : Array Value → Sem Value := Extern.ReflectliteType.method fun t => do Extern.Rtype.noPackHeld "Comparable" t; pure (.bool (← typeInfo t).comparable)

theorem isComparable (w : World) : (entComparable #[.agg #[.pointer (some ⟨3, 112, none⟩)]]).run Tryd.prog w = .ok (.bool true) w := by kernel_rfl
theorem isComp : (Tryd.prog.info? 112).map (·.comparable) = some true := by kernel_rfl
theorem isSize : (Tryd.prog.info? 129).map (·.size) = some 1 := by kernel_rfl
/-- A sentinel as an interface value. -/
def sent (a : Addr) : Value := .iface 112 (.pointer (some a))

end Go.Proofs.YtnjabidelpafgaaDoor
