/-
  (Nothing about places is asked here.)
-/
import Derived.Test.YtpfmccgiijbcjaaDoorRPlainQ
