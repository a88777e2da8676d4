/-
  The law's own fixed fact: three instructions run on the small memory.
-/
import Derived.Test.YteopkgjkbhcicaaDoorCmEq
import Derived.Test.YteopkgjkbhcicaaDoorCoreMem
namespace Go.Proofs.YteopkgjkbhcicaaDoor
open Go.RowKit FerryCrc FerryAlu
set_option linter.unusedVariables false
set_option linter.unusedSimpArgs false

def mc0 : Mc := ⟨mem 12, [0, 0, 0, 0, 0, 0, 0, 0, 0, 0, 0, 0, 0, 0, 0, 0], 0, 0, 0, 0, 0⟩
theorem mc0_ok : mc0.Ok := ⟨mem_ok (Nat.le_refl _), by decide, rfl, by decide, by decide⟩
theorem mc0_run : (mc0.run 10).kind = 1 ∧ (mc0.run 10).steps = 3 ∧ (mc0.run 10).code = 3 ∧ (mc0.run 10).m.proc = [.int .u32 0, .int .u32 5, .int .u32 0, .int .u32 0, .int .u32 0, .int .u32 0, .int .u32 0, .int .u32 0, .int .u32 0, .int .u32 0, .int .u32 0, .int .u32 0, .int .u32 0, .int .u32 0, .int .u32 0, .int .u32 0, .int .u32 12, .int .i64 0, .int .i64 0, .int .i64 0, .int .i64 0] ∧ (mc0.run 10).m.pages.length = 2 := ⟨by kernel_rfl, by kernel_rfl, by kernel_rfl, by kernel_rfl, by kernel_rfl⟩
theorem mc0_pages : ∃ p q : Pg, (mc0.run 10).m.pages[0]? = some p ∧ (mc0.run 10).m.pages[1]? = some q ∧ p.dirty = false ∧ q.dirty = true ∧ q.data[3]? = some 5 := ⟨_, _, rfl, rfl, by kernel_rfl, by kernel_rfl, by kernel_rfl⟩
theorem mc0_proc : mc0.proc.toArray = #[.int .u32 0, .int .u32 0, .int .u32 0, .int .u32 0, .int .u32 0, .int .u32 0, .int .u32 0, .int .u32 0, .int .u32 0, .int .u32 0, .int .u32 0, .int .u32 0, .int .u32 0, .int .u32 0, .int .u32 0, .int .u32 0, .int .u32 0, .int .i64 0, .int .i64 0, .int .i64 0, .int .i64 0] := rfl
theorem run0 (g : Nat) (w1 : World) (hp : Pgs w1 (some ⟨g, 0, none⟩) 2 2 mc0.pages) (A : Addr) (hv : Cov w1 A) : Calls Tryd.prog 10 #[.slice (some ⟨g, 0, none⟩) 2 2, .agg #[.int .u32 0, .int .u32 0, .int .u32 0, .int .u32 0, .int .u32 0, .int .u32 0, .int .u32 0, .int .u32 0, .int .u32 0, .int .u32 0, .int .u32 0, .int .u32 0, .int .u32 0, .int .u32 0, .int .u32 0, .int .u32 0, .int .u32 0, .int .i64 0, .int .i64 0, .int .i64 0, .int .i64 0], .int .i64 10] w1 fun e w' => ∃ v l, e = .returned (.tuple #[v, .agg #[.int .u32 0, .int .u32 5, .int .u32 0, .int .u32 0, .int .u32 0, .int .u32 0, .int .u32 0, .int .u32 0, .int .u32 0, .int .u32 0, .int .u32 0, .int .u32 0, .int .u32 0, .int .u32 0, .int .u32 0, .int .u32 0, .int .u32 12, .int .i64 0, .int .i64 0, .int .i64 0, .int .i64 0], .agg #[.int .i64 1, .int .i64 3, .int .i64 3]]) ∧ POwn w' w1.heap.size v l ∧ Oks l ∧ l.length = 2 ∧ (∃ p q : Pg, l[0]? = some p ∧ l[1]? = some q ∧ p.dirty = false ∧ q.dirty = true ∧ q.data[3]? = some 5) ∧ Below w1.heap.size w1 w' := by
  have h := run_any (some ⟨g, 0, none⟩) 2 2 mc0 10 w1 hp mc0_ok A hv (by decide) (by decide)
  rw [mc0_proc, show (10 : Int).toNat = 10 from rfl] at h
  obtain ⟨k1, k2, k3, k4, k5⟩ := mc0_run
  have hpg := mc0_pages
  generalize mc0.run 10 = RR at *
  refine h.mono ?_
  rintro e w' ⟨v, rfl, h1, h2, h3⟩
  refine ⟨v, RR.m.pages, ?_, h1, h2.ok, k5, hpg, h3⟩
  unfold stopL
  rw [k1, k2, k3, k4]
  rfl

end Go.Proofs.YteopkgjkbhcicaaDoor
