/-
  The cursor of package wire: a body that is too long.
-/
import Derived.Test.YtohoncgkekiihaaDoorCuNext
import Derived.Deep.RegionHeld3
namespace Go.Proofs.YtohoncgkekiihaaDoor
open Go.RowKit FerryCrc
set_option linter.unusedVariables false
set_option linter.unusedSimpArgs false

set_option maxRecDepth 100000 in
set_option maxHeartbeats 200000 in
theorem body_bad (c g len p bd : Nat) (L : List Nat) (a5 : Addr) (w : World) (h : Cur w c g len p bd L) (v5 : w.cell? ⟨5, 0, none⟩ = some (sent a5)) (hs : p + 3 ≤ bd) (hn : bd - (p + 3) < nbe (cut L (p + 1) 2)) :
    Calls Tryd.prog 79 #[.pointer (some ⟨c, 0, none⟩)] w fun e w' => ∃ ev, e = .returned (.tuple #[.pointer none, ev]) ∧ AtErr w' w.heap.size ev a5 ((p + 1 : Nat) : Int) ∧ Below w.heap.size w w' := by
  have c1 := h.c1
  have c2 := h.c2
  have v5 := v5
  have h3 := h.bts.most
  have h4 := h.most
  have HP := hide (peek_any c g len p bd L (p + 1) 2 w h (by decide) (by decide) (by omega))
  have hq := cut_lt h.bts.small (p + 1) 2
  generalize nbe (cut L (p + 1) 2) = q at *
  have e1 : ((p + 1 : Nat) : Int) = (p : Int) + 1 := by omega
  rw [e1] at HP
  have e2 : (bd : Int) - ((p : Int) + 3) < (q : Int) := by omega
  have E1 := hide e1
  have hwp : IntKind.i64.wrap ((p : Int) + 1) = (p : Int) + 1 := by rw [IntKind.wrap_i64]; omega
  clear h e1
  go_enter Tryd.func79, Tryd.ntmps79
  go_wp2_with fail
  refine Calls.mono HP.out ?_
  rintro e w1 ⟨rfl, rfl⟩
  go_wp2
  go_region_held3 (fun wz => wz.cell? ⟨5, 0, none⟩ = some (sent a5) ∧ wz.cell? ⟨c, 1, none⟩ = some (.int .i64 (p : Int))) (first | exact ⟨v5, c1⟩ | exact hold2) (first | (go_at_call 54; refine (placed_any a5 _ _).mono ?_; rintro e w2 ⟨ev, rfl, ha, hb2⟩; have hold2 : w2.cell? ⟨5, 0, none⟩ = some (sent a5) ∧ w2.cell? ⟨c, 1, none⟩ = some (.int .i64 (p : Int)) := ⟨cell_below (w := w.drew) v5 hb2, cell_below (w := w.drew) c1 hb2⟩; have HA := hide ha; have HB2 := hide hb2; clear ha hb2))
  go_wp2
  go_ret2
  exact ⟨ev, rfl, by rw [E1.out]; exact HA.out, (Below.refl _ _).drew.trans HB2.out⟩
end Go.Proofs.YtohoncgkekiihaaDoor
