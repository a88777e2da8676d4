/-
  The core's Step: a run of one instruction.
-/
import Derived.Test.YtegkodgondlcmaaGreatDoorCmEq
namespace Go.Proofs.YtegkodgondlcmaaGreatDoor
open Go.RowKit FerryCrc FerryAlu
set_option linter.unusedVariables false
set_option linter.unusedSimpArgs false

theorem own_two {w : World} {base g g' : Nat} {v : Value} {l : List Pg} (h : POwn w base v l) (hg : g < base) (hg' : g' < base) (P S : List Value) : POwn ((w.setCells g 0 P).setCells g' 0 S) base v l := by
  have hne : ∀ k, k < base → v.ownBlock ≠ some k := fun k hk => by
    rcases h.2 with ⟨e, _⟩ | ⟨q, cap, cur, e, hq, _⟩
    · subst e
      intro he
      cases he
    · subst e
      intro he
      have : q = k := Option.some.inj he
      omega
  exact own_farCells (hne g' hg') S 0 _ (own_farCells (hne g hg) P 0 _ h)

end Go.Proofs.YtegkodgondlcmaaGreatDoor
