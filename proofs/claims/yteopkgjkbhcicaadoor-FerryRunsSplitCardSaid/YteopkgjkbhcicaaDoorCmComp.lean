/-
  The machine's compute.
-/
import Derived.Test.YteopkgjkbhcicaaDoorCmStore
namespace Go.Proofs.YteopkgjkbhcicaaDoor
open Go.RowKit FerryCrc FerryAlu
set_option linter.unusedVariables false
set_option linter.unusedSimpArgs false

/-- What the variable for a division by zero holds. -/
def Dvz (w : World) (A : Addr) : Prop := w.cell? ⟨6, 0, none⟩ = some (.iface 108 (.pointer (some A)))
theorem Dvz.below {w w' : World} {A : Addr} (h : Dvz w A) (hb : Below w.heap.size w w') : Dvz w' A := (hb.cell (p := ⟨6, 0, none⟩) (block_lt_of_cell h)).trans h

set_option maxRecDepth 100000 in
theorem div_zero (op : Int) (b : Nat) (w : World) (A : Addr) (h : Dvz w A) : Calls Tryd.prog 49 #[.int .i64 op, .int .u32 (b : Int), .int .u32 0] w fun e w' => e = .returned (.tuple #[.int .u32 0, .iface 108 (.pointer (some A))]) ∧ ∃ n, w' = w.drewN n := by
  unfold Dvz at h
  go_enter Tryd.func49, Tryd.ntmps49
  go_wp2
  go_quiet (fail)
  go_wp2
  go_ret2
  exact ⟨rfl, _, rfl⟩
set_option maxRecDepth 100000 in
theorem do_zero (op : Int) (b : Nat) (w : World) (A : Addr) (h : Dvz w A) (h1 : 10 ≤ op) (h2 : op ≤ 13) : Calls Tryd.prog 44 #[.int .i64 op, .int .u32 (b : Int), .int .u32 0] w fun e w' => e = .returned (.tuple #[.int .u32 0, .iface 108 (.pointer (some A))]) ∧ ∃ n, w' = w.drewN n := by
  have H1 := hide (div_zero op b w A h)
  clear h
  rcases (by omega : op = 10 ∨ op = 11 ∨ op = 12 ∨ op = 13) with rfl | rfl | rfl | rfl
  all_goals
    go_enter Tryd.func44, Tryd.ntmps44
    go_wp2_with fail
    refine Calls.mono H1.out ?_
    rintro e w' ⟨rfl, n, rfl⟩
    go_wp2
    go_ret2
    exact ⟨rfl, n, rfl⟩
theorem do_some (op : Int) (b c v : Nat) (w : World) (h1 : 1 ≤ op) (h2 : op ≤ 15) (hb : b < 4294967296) (hc : c < 4294967296) (hv : aluV op b c = some v) : Calls Tryd.prog 44 #[.int .i64 op, .int .u32 (b : Int), .int .u32 (c : Int)] w fun e w' => e = .returned (.tuple #[.int .u32 (v : Int), .nilIface]) ∧ w = w' := by
  rcases (by omega : op = 1 ∨ op = 2 ∨ op = 3 ∨ op = 4 ∨ op = 5 ∨ op = 6 ∨ op = 7 ∨ op = 8 ∨ op = 9 ∨ op = 10 ∨ op = 11 ∨ op = 12 ∨ op = 13 ∨ op = 14 ∨ op = 15) with rfl | rfl | rfl | rfl | rfl | rfl | rfl | rfl | rfl | rfl | rfl | rfl | rfl | rfl | rfl
  · obtain rfl := Option.some.inj hv; exact do_add b c w hb hc
  · obtain rfl := Option.some.inj hv; exact do_sub b c w hb hc
  · obtain rfl := Option.some.inj hv; exact do_and b c w hb hc
  · obtain rfl := Option.some.inj hv; exact do_or b c w hb hc
  · obtain rfl := Option.some.inj hv; exact do_xor b c w hb hc
  · obtain rfl := Option.some.inj hv; exact do_shl b c w hb hc
  · obtain rfl := Option.some.inj hv; exact do_shr b c w hb hc
  · obtain rfl := Option.some.inj hv; exact do_sar b c w hb hc
  · obtain rfl := Option.some.inj hv; exact do_mul b c w hb hc
  all_goals try (
    by_cases h0 : c = 0
    · exfalso
      subst h0
      simp [aluV] at hv)
  · unfold aluV at hv; simp [h0] at hv; subst hv; exact do_divu b c w hb hc h0
  · unfold aluV at hv; simp [h0] at hv; subst hv; exact do_divs b c w hb hc h0
  · unfold aluV at hv; simp [h0] at hv; subst hv; exact do_remu b c w hb hc h0
  · unfold aluV at hv; simp [h0] at hv; subst hv; exact do_rems b c w hb hc h0
  · obtain rfl := Option.some.inj hv; exact do_sltu b c w hb hc
  · obtain rfl := Option.some.inj hv; exact do_slts b c w hb hc
theorem alu_none {op : Int} {b c : Nat} (h1 : 1 ≤ op) (h2 : op ≤ 15) (h : aluV op b c = none) : (10 ≤ op ∧ op ≤ 13) ∧ c = 0 := by
  rcases (by omega : op = 1 ∨ op = 2 ∨ op = 3 ∨ op = 4 ∨ op = 5 ∨ op = 6 ∨ op = 7 ∨ op = 8 ∨ op = 9 ∨ op = 10 ∨ op = 11 ∨ op = 12 ∨ op = 13 ∨ op = 14 ∨ op = 15) with rfl | rfl | rfl | rfl | rfl | rfl | rfl | rfl | rfl | rfl | rfl | rfl | rfl | rfl | rfl
  all_goals
    unfold aluV at h
    simp at h
  all_goals first
    | (refine ⟨⟨by decide, by decide⟩, ?_⟩; by_cases h0 : c = 0; exact h0; simp [h0] at h)
end Go.Proofs.YteopkgjkbhcicaaDoor
