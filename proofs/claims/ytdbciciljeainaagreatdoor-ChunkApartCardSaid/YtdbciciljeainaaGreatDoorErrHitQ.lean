/-
  What errors.As says of an *api.At where the target is a variable of that type: it is found; and what api.Place says of it: the place that stands in it.
-/
import Derived.Test.YtdbciciljeainaaGreatDoorPlainQ
namespace Go.Proofs.YtdbciciljeainaaGreatDoor
open Go.RowKit Go.Extern.Stop Go.Stop Go.Extern FerryCrc

theorem setP (ta b e : Addr) (old : Value) (W : World) (hb : W.cell? b = some (.pointer (some e))) (ht : W.cell? ta = some old) (hf : W.frozen? ta = false) :
    (ReflectliteValue.set #[.agg #[.pointer (some ⟨22, 93, none⟩), .pointer (some ta), .int .u64 406], .agg #[.pointer (some ⟨22, 93, none⟩), .pointer (some b), .int .u64 150]]).run Tryz.prog W
      = .ok (.tuple #[]) (W.setCell ta (.pointer (some e))) := by
  change Sem.run Tryz.prog (ReflectliteValue.parts (.agg #[.pointer (some ⟨22, 93, none⟩), .pointer (some ta), .int .u64 406]) >>= fun x => ReflectliteValue.parts (.agg #[.pointer (some ⟨22, 93, none⟩), .pointer (some b), .int .u64 150]) >>= _) W = _
  simp only [Sem.run_bind, partsPa, partsP, Result.andThen]
  simp [ReflectliteValue.flagAddr, loadVar, isAgg, underlying, Tryz.underlying93, hb, Result.andThen, directP, storeVar, Value.cells, storeCells, Addr.add]
  rw [run_store Tryz.prog W ta _ _ (by rfl)]
  simp [ht, hf]

set_option maxRecDepth 100000 in
set_option maxHeartbeats 4000000 in
theorem as_hit (e t : Addr) (old : Value) (w : World) (hg : Handle w) (ht0 : w.cell? t = some old) (hf0 : w.frozen? t = false) :
    Calls Tryz.prog 54 #[.iface 93 (.pointer (some e)), .iface 95 (.pointer (some t))] w fun ev w' => ev = .returned (.bool true) ∧ w'.cell? t = some (.pointer (some e)) ∧ Below t.block w w' := by
  have h6 := callValueOf
  have h7 := callType
  have h8 := callIsNil
  have h27 := callKind
  have h37 := callElem
  have h38 := callImplements
  have h10 := callTypeOf
  have h35 := callAssignable
  have h11 := callValueElem
  have h12 := callSet
  have tO := typeOfP
  have mA := methodAssignable
  have a25 := assignableP
  have v25 := valueOfP
  have f6 := valueOfPP
  have f7 := typePP
  have mK := methodKind
  have mE := methodElem
  have mI := methodImplements
  have k27 := kindPP
  have k25 := kindP
  have e27 := elemPP
  have i25 := implementsP
  have n8 := isNilPP ⟨w.heap.size, 0, none⟩ t ((w.alloc (.cells #[.pointer (some t)] 95)).alloc (.cells #[.pointer (some ⟨22, 95, none⟩), .pointer (some ⟨w.heap.size, 0, none⟩), .int .u64 150] 121)) (by simp)
  have hg2 := (hg.alloc (.cells #[.pointer (some t)] 95)).alloc (.cells #[.pointer (some ⟨22, 95, none⟩), .pointer (some ⟨w.heap.size, 0, none⟩), .int .u64 150] 121)
  have htl : t.block < w.heap.size := block_lt_of_cell ht0
  have el := elemVPP ⟨w.heap.size, 0, none⟩ t (((w.alloc (.cells #[.pointer (some t)] 95)).alloc (.cells #[.pointer (some ⟨22, 95, none⟩), .pointer (some ⟨w.heap.size, 0, none⟩), .int .u64 150] 121)).alloc (.cells #[.pointer (some ⟨22, 95, none⟩), .pointer (some ⟨w.heap.size, 0, none⟩), .int .u64 150] 121)) (by rw [World.cell?_alloc_lt _ _ ⟨w.heap.size, 0, none⟩ (by simp; omega)]; simp)
  have st := setP t ⟨w.heap.size + 1 + 1 + 1, 0, none⟩ e old ((((w.alloc (.cells #[.pointer (some t)] 95)).alloc (.cells #[.pointer (some ⟨22, 95, none⟩), .pointer (some ⟨w.heap.size, 0, none⟩), .int .u64 150] 121)).alloc (.cells #[.pointer (some ⟨22, 95, none⟩), .pointer (some ⟨w.heap.size, 0, none⟩), .int .u64 150] 121)).alloc (.cells #[.pointer (some e)] 93))
    (by rw [World.cell?_alloc_at _ _ _ _ (by simp)]; rfl)
    (by rw [World.cell?_alloc_lt _ _ t (by simp; omega), World.cell?_alloc_lt _ _ t (by simp; omega), World.cell?_alloc_lt _ _ t (by simp; omega), World.cell?_alloc_lt _ _ t htl]; exact ht0)
    (by rw [World.frozen?_alloc_old _ _ t (by simp; omega), World.frozen?_alloc_old _ _ t (by simp; omega), World.frozen?_alloc_old _ _ t (by simp; omega), World.frozen?_alloc_old _ _ t (Nat.ne_of_lt htl)]; exact hf0)
  have HT := hide htl
  have H0 := hide ht0
  unfold Handle at hg2
  clear hg htl ht0 hf0
  go_enter Tryz.func54, Tryz.ntmps54
  go_wp2
  refine wp_loop_rounds 1 ?_
  rw [rounds_succ]
  go_wp2
  go_ret
  refine ⟨rfl, ?_, ?_⟩
  · have hlt := HT.out
    refine World.cell?_setCell_same _ _ _ (u := old) ?_
    rw [World.cell?_alloc_lt _ _ t (by simp; omega), World.cell?_alloc_lt _ _ t (by simp; omega), World.cell?_alloc_lt _ _ t (by simp; omega), World.cell?_alloc_lt _ _ t hlt]
    exact H0.out
  · have hlt := HT.out
    exact (((((Below.refl _ _).alloc (by omega) _).alloc (by simp; omega) _).alloc (by simp; omega) _).alloc (by simp; omega) _).setCell (Nat.le_refl _) _

set_option maxRecDepth 100000 in
theorem place_at (b o : Nat) (p : Int) (w : World) (hg : Handle w) (hc : w.cell? ⟨b, o, none⟩ = some (.int .i64 p)) :
    Calls Tryz.prog 28 #[.iface 93 (.pointer (some ⟨b, o, none⟩))] w fun e w' => e = .returned (.int .i64 p) ∧ Below w.heap.size w w' := by
  have HC := hide (fun w2 (h2 : Handle w2) (t : Addr) (old : Value) (h3 : w2.cell? t = some old) (h4 : w2.frozen? t = false) => as_hit ⟨b, o, none⟩ t old w2 h2 h3 h4)
  have HG := hide hg
  have HL := hide hc
  clear hg hc
  go_enter Tryz.func28, Tryz.ntmps28
  go_wp2_with fail
  refine (HC.out _ (HG.out.alloc _) _ (.pointer none) (by rw [World.cell?_alloc_at _ _ _ _ rfl]; rfl) (World.frozen?_alloc_new _ _ _ _)).mono ?_
  rintro e w' ⟨rfl, hc1, hb⟩
  have HB := hide hb
  have hc2 : w'.cell? ⟨b, o, none⟩ = some (.int .i64 p) := by
    rw [HB.out.cell (p := ⟨b, o, none⟩) (block_lt_of_cell HL.out), World.cell?_alloc_past _ _ _ (block_lt_of_cell HL.out)]
    exact HL.out
  clear hb
  go_wp2
  go_ret
  exact ⟨rfl, ((Below.refl _ _).alloc (Nat.le_refl _) _).trans HB.out⟩

/-- What api.Place says of an error. -/
theorem place_any {w : World} {E : Nat → Addr} (he : Errs w E) (v : Value) (i : Nat) (p : Int) (hv : IsErr w E v i p) :
    Calls Tryz.prog 28 #[v] w fun e w' => e = .returned (.int .i64 p) ∧ Below w.heap.size w w' := by
  rcases hv with ⟨rfl, rfl, rfl⟩ | ⟨_, _, rfl, rfl⟩ | ⟨_, _, b, o, rfl, hc, _⟩
  · exact place_nil w
  · exact place_sent _ w he.handle
  · exact place_at b o p w he.handle hc
end Go.Proofs.YtdbciciljeainaaGreatDoor
