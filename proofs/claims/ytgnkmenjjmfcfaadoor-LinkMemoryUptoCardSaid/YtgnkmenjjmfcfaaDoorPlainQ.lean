/-
  What api.Place says of errors that tell no place.
-/
import Derived.Test.YtgnkmenjjmfcfaaDoorErrCode
namespace Go.Proofs.YtgnkmenjjmfcfaaDoor
open Go.RowKit Go.Extern.Stop Go.Stop Go.Extern FerryCrc

/-- An error value of number i (0: none) that tells no place. -/
def Bare (E : Nat → Addr) (v : Value) (i : Nat) : Prop := (v = .nilIface ∧ i = 0) ∨ (1 ≤ i ∧ i ≤ 20 ∧ v = sent (E i))
theorem Bare.err {w : World} {E : Nat → Addr} {v : Value} {i : Nat} (h : Bare E v i) : IsErr w E v i (-1) := by
  rcases h with ⟨h1, h2⟩ | ⟨h1, h2, h3⟩
  · exact .inl ⟨h1, h2, rfl⟩
  · exact .inr (.inl ⟨h1, h2, h3, rfl⟩)
theorem bare_nil (E : Nat → Addr) : Bare E .nilIface 0 := .inl ⟨rfl, rfl⟩
theorem bare_sent (E : Nat → Addr) (i : Nat) (h1 : 1 ≤ i) (h2 : i ≤ 20) : Bare E (sent (E i)) i := .inr ⟨h1, h2, rfl⟩

theorem Handle.below {w w' : World} (h : Handle w) (hb : Below w.heap.size w w') : Handle w' := cell_below h hb

set_option maxRecDepth 100000 in
theorem place_nil (w : World) :
    Calls Tryd.prog 39 #[.nilIface] w fun e w' => e = .returned (.int .i64 (-1)) ∧ Below w.heap.size w w' := by
  go_enter Tryd.func39, Tryd.ntmps39
  go_wp2_with (go_at_call 48; refine (as_nil _ _).mono ?_; rintro e w' ⟨rfl, rfl⟩)
  go_ret
  exact ⟨rfl, (Below.refl _ _).alloc (Nat.le_refl _) _⟩

set_option maxRecDepth 100000 in
theorem place_sent (a : Addr) (w : World) (hg : Handle w) :
    Calls Tryd.prog 39 #[sent a] w fun e w' => e = .returned (.int .i64 (-1)) ∧ Below w.heap.size w w' := by
  have HC : Hid (∀ t w2, Handle w2 → Calls Tryd.prog 48 #[.iface 148 (.pointer (some a)), .iface 99 (.pointer (some t))] w2 fun ev w' => ev = .returned (.bool false) ∧ Below w2.heap.size w2 w') := fun t w2 h => as_miss a t w2 h
  have HG := hide hg
  clear hg
  unfold sent
  go_enter Tryd.func39, Tryd.ntmps39
  go_wp2_with (go_at_call 48; refine (HC.out _ _ (HG.out.alloc _)).mono ?_; rintro e w' ⟨rfl, hb⟩)
  go_ret
  exact ⟨rfl, ((Below.refl _ _).alloc (Nat.le_refl _) _).trans (hb.mono (by simp))⟩

theorem place_bare {w : World} {E : Nat → Addr} (he : Errs w E) (v : Value) (i : Nat) (hv : Bare E v i) :
    Calls Tryd.prog 39 #[v] w fun e w' => e = .returned (.int .i64 (-1)) ∧ Below w.heap.size w w' := by
  rcases hv with ⟨rfl, rfl⟩ | ⟨_, _, rfl⟩
  · exact place_nil w
  · exact place_sent _ w he.handle

end Go.Proofs.YtgnkmenjjmfcfaaDoor
