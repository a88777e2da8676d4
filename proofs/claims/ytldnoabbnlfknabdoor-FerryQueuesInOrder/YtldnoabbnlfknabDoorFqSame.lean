/-
  Whether two lists of strings are the same: the law's own sameStrings.
-/
import Derived.Test.YtldnoabbnlfknabDoorFqBase
namespace Go.Proofs.YtldnoabbnlfknabDoor
open Go.RowKit
set_option linter.unusedVariables false
set_option linter.unusedSimpArgs false

set_option maxRecDepth 100000 in
theorem sameStrings_yes (a a' : Option Addr) (len c c' : Nat) (l : List ByteArray) (w : World) (hs : Sts w a len c l) (hs' : Sts w a' len c' l) :
    Calls Tryd.prog 37 #[.slice a len c, .slice a' len c'] w fun e w' => e = .returned (.bool true) ∧ Below w.heap.size w w' := by
  have hm := hs.most
  have HS := hide hs
  have HS' := hide hs'
  clear hs hs'
  go_enter Tryd.func37, Tryd.ntmps37
  go_wp2
  go_loopw [13] (fun i wr => ∃ k : Nat, k ≤ len ∧ i = .int .i64 k ∧ Hid (Below w.heap.size w wr)) (fun i _ => len - (intOf i).toNat)
  case atStart => exact ⟨0, by omega, rfl, Below.refl _ _⟩
  case round =>
    obtain ⟨k, hk, rfl, hb⟩ := hrel
    by_cases hlt : k < len
    · obtain ⟨x, hx⟩ : ∃ x, l[k]? = some x := ⟨_, List.getElem?_eq_getElem (by rw [HS.out.size]; exact hlt)⟩
      obtain ⟨b, off, rfl, h1⟩ := (HS.out.below hb.out).cell hx
      obtain ⟨b', off', rfl, h2⟩ := (HS'.out.below hb.out).cell hx
      clear hx
      go_wp2_with fail
      go_quiet (fail)
      go_wp2
      go_roundw
      case rel => exact ⟨k + 1, by omega, by go_num, drewN_below hb.out nq⟩
      case measure => simp [intOf]; omega
    · obtain rfl : k = len := by omega
      go_wp2
      go_ret
      exact ⟨rfl, hb.out⟩
theorem strings_slk {w : World} {base base' : Nat} {x y : Value} {l : List ByteArray} (h : SLk w base x l) (h' : SLk w base' y l) (hm : l.length ≤ 8796093022207) (hs : Smalls l) :
    Calls Tryd.prog 37 #[x, y] w fun e w' => e = .returned (.bool true) ∧ Below w.heap.size w w' := by
  obtain ⟨a, c, rfl, s1⟩ := h.sts hm hs
  obtain ⟨a', c', rfl, s2⟩ := h'.sts hm hs
  exact sameStrings_yes a a' _ c c' l w s1 s2
end Go.Proofs.YtldnoabbnlfknabDoor
