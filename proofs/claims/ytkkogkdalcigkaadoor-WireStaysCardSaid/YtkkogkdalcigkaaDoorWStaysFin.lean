/-
  The law WireStays over its own open.
-/
import Derived.Test.YtkkogkdalcigkaaDoorWireStaysWalk
import Derived.Test.YtkkogkdalcigkaaDoorWOpen
namespace Go.Proofs.YtkkogkdalcigkaaDoor.wireStays
open Go.RowKit FerryCrc
theorem law {E : Nat → Addr} (a : Option Addr) (len cap : Nat) (l : List Op7) (w : World) (he : Errs w E) (hs : Rcs Op7.cells 7 w a len cap l) (hok : ∀ o ∈ l, o.Ok) (hm : len ≤ 5864062014805) :
    Calls Tryd.prog 3 #[.slice a len cap] w fun e w' => e = .returned (.bool true) ∧ Below w.heap.size w w' :=
  law0 (fun B v1 v2 cs ds S w h h1 h2 hS => open_any B v1 v2 cs ds S w h h1 h2 hS) a len cap l w he hs hok hm
end Go.Proofs.YtkkogkdalcigkaaDoor.wireStays
