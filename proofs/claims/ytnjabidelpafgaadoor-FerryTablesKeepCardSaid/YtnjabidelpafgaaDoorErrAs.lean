/-
  What errors.As says of the errors of package api where the target is a variable of type pointer to api.At: by contracts over Go's own text.
-/
import Derived.Test.YtnjabidelpafgaaDoorErrIs
namespace Go.Proofs.YtnjabidelpafgaaDoor
open Go.RowKit Go.Extern.Stop Go.Stop Go.Extern FerryCrc

def entValueOf : Array Value → Sem Value := fun args => ReflectliteValue.unpack (args.getD 0 (.tuple #[]))
def entType : Array Value → Sem Value := ReflectliteValue.methodAny (ReflectliteValue.valueError "reflectlite.Value.Type" 0) (fun t _ _ _ => ReflectliteType.toType t)
def entIsNil : Array Value → Sem Value := ReflectliteValue.method (ReflectliteValue.valueError "reflectlite.Value.IsNil" 0) ReflectliteValue.isNil
def entKind : Array Value → Sem Value := ReflectliteType.abiMethod fun t => do pure (.int .u8 (← Rtype.kind t))
def entElem : Array Value → Sem Value := ReflectliteType.method ReflectliteType.elem
def entImplements : Array Value → Sem Value := ReflectliteType.relation "Implements" ReflectliteType.implements_
def entAssignable : Array Value → Sem Value := ReflectliteType.relation "AssignableTo" ReflectliteType.assignableTo
def entValueElem : Array Value → Sem Value := ReflectliteValue.method (ReflectliteValue.valueError "reflectlite.Value.Elem" 0) ReflectliteValue.elem

end Go.Proofs.YtnjabidelpafgaaDoor
