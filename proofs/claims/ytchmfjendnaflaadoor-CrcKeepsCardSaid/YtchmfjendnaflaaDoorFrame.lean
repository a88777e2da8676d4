/-
  What the reading of a byte slice that came in gives: its bytes, in memory.
-/
import Derived.Test.YtchmfjendnaflaaDoorBase
import Derived.ProofKit
import Derived.OpenShut
import Derived.ShutString
import Derived.ChangeOld
import Derived.Below
import Derived.SizedLaws
namespace Go.Proofs.YtchmfjendnaflaaDoor
open Go.ChangeShapes Go.WideShapes Go.ChangeAt Go.RowKit FerryCrc

theorem own : ownKnob Tryd.prog.godebug = none := by kernel_rfl
theorem laidOut : laidOutB Tryd.prog = true := by kernel_rfl

/-- What the reading of a byte slice gives: its bytes, in memory. -/
theorem bts_row {w : World} {a : Option Addr} {len cap : Nat} {zs : List Int} (x : Addr) (ha : a = some x) (hl : len ≤ cap) (hz : zs.length = cap) (hr : cap ≤ 140737488351232)
    (hc : ∀ i, i < zs.length → w.cell? (x.add i) = some (.int .u8 (zs.getD i 0))) (hw : ∀ n ∈ zs, (Lit.int .u8 n).wf = true) : Bts w a len cap ((zs.take len).map Int.toNat) := by
  have hb : ∀ n ∈ zs, 0 ≤ n ∧ n < 256 := fun n hn => by have := bounds_u8 (hw n hn); omega
  refine ⟨by simp; omega, by omega, hl, ?_, fun e => by rw [ha] at e; simp at e, ?_⟩
  · intro c hc'
    obtain ⟨n, hn, rfl⟩ := List.mem_map.1 hc'
    have := hb n (List.mem_of_mem_take hn)
    omega
  · intro k hk
    have hcell := hc k (by omega)
    obtain ⟨b, off, spot⟩ := x
    have hspot : spot = none := by simpa [Addr.add] using World.cell?_spot (hc 0 (by omega))
    subst hspot
    have hkz : k < zs.length := by omega
    refine ⟨b, off, ha, (zs[k]).toNat, by simp [hk, hkz], ?_⟩
    have hn := hb _ (List.getElem_mem hkz)
    rw [Int.toNat_of_nonneg hn.1]
    rw [add_plain] at hcell
    simpa [hkz] using hcell

end Go.Proofs.YtchmfjendnaflaaDoor
