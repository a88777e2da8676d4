/-
  Walk of the law CrcSums.
-/
import Derived.Test.YtfggpdddoaageaaNine
import Derived.Test.YtfggpdddoaageaaRefSum
import Derived.Test.YtfggpdddoaageaaRefMore
namespace Go.Proofs.Ytfggpdddoaageaa.crcSums
open Go.RowKit FerryCrc

theorem law (a : Option Addr) (len cap : Nat) (l : List Nat) (r : Nat) (w : World) (hs : Bts w a len cap l) (h : r < 4294967296) :
    Calls Try.prog 3 #[.slice a len cap, .int .u32 (r : Int)] w fun e w' => e = .returned (.bool true) ∧ Below w.heap.size w w' := by
  go_enter Try.func3, Try.ntmps3
  go_wp2_with fail
  refine (awake_any w).mono ?_
  rintro e w1 ⟨rfl, hb1⟩
  have hs1 := hs.below hb1
  go_wp2_with (first | (go_at_call 5; refine (refSum_any a len cap l w1 hs1).mono ?_; rintro e w' ⟨rfl, rfl⟩) | (go_at_call 6; refine (refMore_any r a len cap l w1 h hs1).mono ?_; rintro e w' ⟨rfl, rfl⟩) | (go_at_call 7; refine (sum_any a len cap l w1 hs1).mono ?_; rintro e w2 ⟨rfl, hb2⟩) | (go_at_call 8; refine (more_any r a len cap l w2 h (hs1.below hb2)).mono ?_; rintro e w3 ⟨rfl, hb3⟩))
  go_ret
  exact ⟨rfl, chain (chain hb1 hb2) hb3⟩
end Go.Proofs.Ytfggpdddoaageaa.crcSums
