/-
  The document's Path and Equal; both Paths where too many instructions are asked for.
-/
import Derived.Test.YtegkodgondlcmaaDoorCmDRun
import Derived.LoopTactic
import Derived.BigRegion
namespace Go.Proofs.YtegkodgondlcmaaDoor
open Go.RowKit FerryCrc FerryAlu
set_option linter.unusedVariables false
set_option linter.unusedSimpArgs false

theorem UOwn.below {w w' : World} {base : Nat} {v : Value} {l : List Nat} (h : UOwn w base v l) (hb : Below w.heap.size w w') : UOwn w' base v l :=
  h.oth (o := none) ⟨hb.os, hb.tape, hb.output, hb.size, fun k hk _ => hb.block k hk⟩ (fun k _ => by simp)
/-- The words that a slice shows. -/
def Wv (w : World) (a : Option Addr) (l : List Nat) : Prop := ∀ k, k < l.length → ∃ b off c, a = some ⟨b, off, none⟩ ∧ l[k]? = some c ∧ w.cell? ⟨b, off + k, none⟩ = some (.int .u32 (c : Int))
theorem Wv.below {w w' : World} {a : Option Addr} {l : List Nat} (h : Wv w a l) (hb : Below w.heap.size w w') : Wv w' a l := fun k hk => by
  obtain ⟨b, off, c, e1, e2, e3⟩ := h k hk
  exact ⟨b, off, c, e1, e2, (hb.cell (p := ⟨b, off + k, none⟩) (block_lt_of_cell e3)).trans e3⟩
theorem UOwn.view {w : World} {base : Nat} {v : Value} {l : List Nat} (h : UOwn w base v l) : ∃ a c, v = .slice a l.length c ∧ Wv w a l := by
  rcases h.2 with ⟨e, e2⟩ | ⟨g, cap, cur, e, hg, _⟩
  · refine ⟨none, 0, ?_, fun k hk => ?_⟩
    · rw [e, e2]
    · omega
  · refine ⟨_, cap, e, fun k hk => ⟨g, 0, l[k], rfl, by simp [hk], ?_⟩⟩
    subst e
    have := World.ownsRow.cellAt h k (by omega)
    rw [Nat.zero_add, this]
    simp [hk, u32v]

set_option maxRecDepth 100000 in
set_option maxHeartbeats 8000000 in
theorem requal_any (a b : Option Addr) (ca cb : Nat) (l : List Nat) (w : World) (ha : Wv w a l) (hb : Wv w b l) (hn : l.length ≤ 1000000) :
    Calls Tryd.prog 16 #[.slice a l.length ca, .slice b l.length cb] w fun e w' => e = .returned (.bool true) ∧ Below w.heap.size w w' := by
  have HA := hide ha
  have HB := hide hb
  clear ha hb
  obtain ⟨n, hln⟩ : ∃ n, l.length = n := ⟨_, rfl⟩
  have HL := hide hln
  rw [hln] at hn
  rw [hln]
  clear hln
  go_enter Tryd.func16, Tryd.ntmps16
  go_wp2
  go_loopw [5] (fun i wr => ∃ k : Nat, k ≤ n ∧ i = .int .i64 k ∧ Below w.heap.size w wr) (fun i _ => n - (intOf i).toNat)
  case atStart => exact ⟨0, by omega, rfl, Below.refl _ _⟩
  case round =>
    obtain ⟨k, hk, rfl, hbw⟩ := hrel
    by_cases hlt : k < n
    · obtain ⟨b1, o1, x, rfl, hx, cx⟩ := HA.out.below hbw k (by rw [HL.out]; exact hlt)
      obtain ⟨b2, o2, y, rfl, hy, cy⟩ := HB.out.below hbw k (by rw [HL.out]; exact hlt)
      obtain rfl : x = y := Option.some.inj (hx.symm.trans hy)
      clear hx hy
      go_wp2
      go_region
      all_goals go_wp2
      all_goals go_roundw
      case rel => exact ⟨k + 1, by omega, by go_num, hbw.drew⟩
      case measure => simp [intOf]; omega
    · have hk8 : k = n := by omega
      subst hk8
      go_wp2
      go_ret
      exact ⟨rfl, hbw⟩

set_option maxRecDepth 100000 in
set_option maxHeartbeats 8000000 in
theorem rpath_any (a : Option Addr) (len cap : Nat) (m : Mc) (n : Int) (w : World) (hs : Pgs w a len cap m.pages) (ok : m.Ok) (hn : n ≤ 10000) (hn0 : -9223372036854775808 ≤ n) :
    Calls Tryd.prog 12 #[.slice a len cap, .agg m.proc.toArray, .int .i64 n] w fun e w' => ∃ v, e = .returned (.tuple #[v, .int .i64 0]) ∧ UOwn w' w.heap.size v (m.path n.toNat) ∧ Below w.heap.size w w' := by
  have HS := hide hs
  have OK := hide ok
  have HPL : Hid (m.proc.length = 21) := proc_len ok
  obtain ⟨z4, hb0, hsz⟩ := one_alloc w m.proc.toArray 26
  have Z4 : Hid (Bl (w.alloc (.cells m.proc.toArray 26)) w.heap.size m.proc) := z4
  have HB0 := hide hb0
  have HSZ := hide hsz
  have hu26 := Tryd.underlying26
  have hi26 : (Tryd.prog.info? 26).map (·.size) = some m.proc.length := by rw [HPL.out]; exact infoProc
  have HU := hide hu26
  have HI := hide hi26
  have hgt : decide ((10000 : Int) < n) = false := by simp; omega
  clear hs ok z4 hb0 hsz hu26 hi26
  go_enter Tryd.func12, Tryd.ntmps12
  go_upto_region 1 with fail
  generalize w.alloc (.cells m.proc.toArray 26) = W0 at *
  have r4 : W0.rangeAt w.heap.size 0 m.proc := bl_range Z4.out
  have HRN := hide (rrun_any a len cap m n W0 (HS.out.below HB0.out) OK.out hn hn0)
  generalize hPT : m.path n.toNat = PT at *
  generalize m.run n.toNat = R at *
  go_wp2_with (first | (refine wpList_load_mid (op := { dst := some 14, op := Go.Op.load 26 (Go.Operand.tmp 4), type := 26, pos := "ref.go:167", after := #[], guard := none }) rfl 26 (.tmp 4) rfl w.heap.size 0 rfl m.proc _ r4 HU.out rfl HI.out ?_) | fail)
  refine Calls.mono HRN.out ?_
  rintro e w1 ⟨v, pv, rfl, ho, hu, okR, b1⟩
  have HB1 := hide (chain HB0.out b1)
  obtain ⟨va, vc, hv, _, _⟩ := ho.pgs okR.ok okR.most
  have HVV := hide hv
  have HML : Hid ((mch v R.m.proc (R.kind : Int) (R.steps : Int) R.code).length = 25) := mch_len (proc_len okR) _ _ _ _
  have HIA : Hid ((Tryd.prog.info? 56).map (·.size) = some (mch v R.m.proc (R.kind : Int) (R.steps : Int) R.code).toArray.size) := by unfold Hid; rw [List.size_toArray, HML.out]; exact infoMch
  have HONE : Hid (∀ u ∈ (mch v R.m.proc (R.kind : Int) (R.steps : Int) R.code), u.oneCell' = true) := by unfold Hid; rw [HVV.out]; exact mch_one _ _ _ _ _ _ _
  have HPV := hide (hu.weaken HB0.out.size)
  obtain ⟨ua, uc, rfl⟩ := hu.sl
  clear ho okR b1 hu hv HRN r4
  go_wp2_with (first | (refine wpList_store_new (op := { dst := none, op := Go.Op.store 56 (Go.Operand.tmp 8) (Go.Operand.tmp 17), type := 0, pos := "ref.go:167", after := #[{ on := 7, ground := Go.Ground.data }, { on := 5, ground := Go.Ground.data }, { on := 3, ground := Go.Ground.chain }, { on := 0, ground := Go.Ground.phase }, { on := 1, ground := Go.Ground.phase }, { on := 2, ground := Go.Ground.phase }, { on := 3, ground := Go.Ground.phase }, { on := 4, ground := Go.Ground.phase }, { on := 5, ground := Go.Ground.phase }, { on := 6, ground := Go.Ground.textOnly Go.Departure.lateStores }, { on := 7, ground := Go.Ground.phase }], guard := none }) rfl 56 (.tmp 8) (.tmp 17) rfl (mch v R.m.proc (R.kind : Int) (R.steps : Int) R.code).toArray rfl rfl HIA.out (show (25 : Nat) = (mch v R.m.proc (R.kind : Int) (R.steps : Int) R.code).toArray.size by rw [show (mch v R.m.proc (R.kind : Int) (R.steps : Int) R.code).toArray.size = (mch v R.m.proc (R.kind : Int) (R.steps : Int) R.code).length from List.size_toArray, HML.out]) (all_oneCell_toArray HONE.out) ?_) | fail)
  have HBA : Hid (Below w1.heap.size w1 (w1.alloc (.cells (mch v R.m.proc (R.kind : Int) (R.steps : Int) R.code).toArray 56))) := (Below.refl _ _).alloc (Nat.le_refl _) _
  go_ret2
  subst hPT
  exact ⟨_, rfl, HPV.out.below HBA.out, chain HB1.out HBA.out⟩

set_option maxRecDepth 100000 in
theorem rpath_far (m : Mc) (n : Int) (w : World) (hn : 10000 < n) :
    Calls Tryd.prog 12 #[.slice none 0 0, .agg m.proc.toArray, .int .i64 n] w fun e w' => e = .returned (.tuple #[.slice none 0 0, .int .i64 12]) ∧ Below w.heap.size w w' := by
  have hgt : decide ((10000 : Int) < n) = true := by simp; omega
  obtain ⟨_, hb0, _⟩ := one_alloc w m.proc.toArray 26
  go_enter Tryd.func12, Tryd.ntmps12
  go_upto_region 1 with fail
  generalize w.alloc (.cells m.proc.toArray 26) = W0 at *
  go_wp2
  go_ret2
  exact ⟨rfl, hb0⟩

set_option maxRecDepth 100000 in
theorem path_far (m : Mc) (n : Int) (w : World) (hn : 10000 < n) (V : Value) (hV : w.cell? ⟨0, 0, none⟩ = some V) :
    Calls Tryd.prog 14 #[.slice none 0 0, .agg m.proc.toArray, .int .i64 n] w fun e w' => e = .returned (.tuple #[.slice none 0 0, V]) ∧ Below w.heap.size w w' := by
  have hgt : decide ((10000 : Int) < n) = true := by simp; omega
  obtain ⟨_, hb0, _⟩ := one_alloc w m.proc.toArray 26
  have hV0 := (hb0.cell (p := ⟨0, 0, none⟩) (block_lt_of_cell hV)).trans hV
  clear hV
  go_enter Tryd.func14, Tryd.ntmps14
  go_upto_region 1 with fail
  generalize w.alloc (.cells m.proc.toArray 26) = W0 at *
  go_wp2
  go_region
  all_goals go_wp2
  all_goals (go_ret2; exact ⟨rfl, hb0.drew⟩)
end Go.Proofs.YtegkodgondlcmaaDoor
