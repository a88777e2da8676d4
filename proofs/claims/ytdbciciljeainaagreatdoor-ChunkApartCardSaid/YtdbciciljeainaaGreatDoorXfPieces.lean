/-
  The program's pieces and Due.
-/
import Derived.Test.YtdbciciljeainaaGreatDoorXfSend
namespace Go.Proofs.YtdbciciljeainaaGreatDoor
open Go.RowKit FerryCrc
set_option linter.unusedVariables false
set_option linter.unusedSimpArgs false

/-- The bytes of a text, laid anew. -/
theorem conv_lay (w : World) (S : ByteArray) (n : Nat) (hn : S.size = n) (hm : n ≤ 140737488351232) : ∃ c w', (convert 9 56 (.string S)).run Tryz.prog w = .ok (.slice (some ⟨w.heap.size, 0, none⟩) n c) w' ∧ Bts w' (some ⟨w.heap.size, 0, none⟩) n c (bytesOf S) ∧ Below w.heap.size w w' := by
  subst hn
  refine ⟨_, _, run_bytes_of_string (P := Tryz.prog) w 9 56 5 S Tryz.underlying9 Tryz.underlying56 Tryz.underlying5, ?_, ?_⟩
  · refine Bts.below (w := w.alloc _) ?_ ((Below.refl _ _).drew)
    refine ⟨bytesOf_len S, by omega, grownCap_ge _ _ _ _, bytesOf_lt S, fun e => by simp at e, fun k hk => ⟨_, _, rfl, (S.data[k]'hk).toNat, ?_, ?_⟩⟩
    · unfold bytesOf
      rw [List.getElem?_map, Array.getElem?_toList, Array.getElem?_eq_getElem hk]
      rfl
    · rw [Nat.zero_add, cell_of_row _ _ k _ _ _ (heap_alloc_new _ _)]
      exact bytesRow_at S _ k hk
  · exact ((Below.refl _ _).alloc (Nat.le_refl _) _).drew
def pieE (s : Sd) (fn : Nat) : Nat := if cutE s.part s.boot s.peer s.num s.stage s.image.size = 0 ∧ fn = tot (bytesOf s.image) ∧ 0 ≤ s.rounds then 0 else 9
def pieL (s : Sd) (fn : Nat) : List Nt := if pieE s fn = 0 then cutN s.part s.boot s.peer s.num s.stage (bytesOf s.image) else []

end Go.Proofs.YtdbciciljeainaaGreatDoor
