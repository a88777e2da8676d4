/-
  Walk of the law PortQueues.
-/
import Derived.Test.YtpfmccgiijbcjaaDoorRPortQueues0
import Derived.Test.YtpfmccgiijbcjaaDoorRPortQueues1
import Derived.Test.YtpfmccgiijbcjaaDoorRPortQueues3
namespace Go.Proofs.YtpfmccgiijbcjaaDoorR.portQueues
open Go.RowKit

theorem law {E : Nat → Addr} (k s d r : Int) (a : Option Addr) (len cap : Nat) (KK : Nat → Int) (XX : Nat → ByteArray) (w : World) (he : Errs w E) (hs : Sps w a len KK XX) :
    Calls Tryd.prog 6 #[.agg #[.int .i64 k, .int .i64 s, .int .i64 d, .int .i64 r], .slice a len cap] w fun e w' => e = .returned (.bool true) ∧ Below w.heap.size w w' := by
  by_cases hp : planErr k s d r = 0
  · by_cases h1 : k = 1
    · subst h1
      exact law1 s d r a len cap KK XX w he hs hp
    · by_cases h3 : k = 3
      · subst h3
        exact law3 s d r a len cap KK XX w he hs hp
      · exact law0 k s d r a len cap w he (.inr (by omega))
  · exact law0 k s d r a len cap w he (.inl hp)
end Go.Proofs.YtpfmccgiijbcjaaDoorR.portQueues
