/-
  copy of timers into a new list with room.
-/
import Derived.Test.YtdckpecalglnoaaDoorTaLaw
import Derived.Laws.CopyOwn
import Derived.Laws.CopyRow
namespace Go.Proofs.YtdckpecalglnoaaDoor
open Go.RowKit
set_option linter.unusedVariables false
set_option linter.unusedSimpArgs false

theorem run_copy_nilT {P : Program} (w : World) (dT sT ty elem : TypeId) (d : Option Addr) (dLen dCap : Nat) (sz : Nat)
    (hu : P.underlying dT = some (.slice elem)) (hs : (P.info? elem).map (·.size) = some sz) :
    (Builtin.copy_ #[dT, sT] ty #[.slice d dLen dCap, .slice none 0 0]).run P w = .ok (goInt 0) w := by
  cases hq : P.info? elem with
  | none => simp [hq] at hs
  | some i =>
    simp [Builtin.copy_, run_underlying hu, Builtin.lenOf, Builtin.firstCells, sizeOf, typeInfo, hq]
    cases d <;> simp [storeCells]
theorem run_copy_wideT {P : Program} (w : World) (dT sT ty elem : TypeId) (g o dLen dCap : Nat) (a : Addr) (sLen sCap : Nat) (cur : Array Value) (t : TypeId) (cs : List Value) (sz : Nat)
    (hu : P.underlying dT = some (.slice elem)) (hs : (P.info? elem).map (·.size) = some sz)
    (hg : w.heap[g]? = some (.cells cur t (0, 0))) (hn : cs.length = Nat.min sLen dLen * sz)
    (hsrc : ∀ j v, cs[j]? = some v → w.cell? (a.add j) = some v) (hfit : o + cs.length ≤ cur.size) (h1 : ∀ v ∈ cs, v.oneCell' = true) :
    (Builtin.copy_ #[dT, sT] ty #[.slice (some ⟨g, o, none⟩) dLen dCap, .slice (some a) sLen sCap]).run P w =
      .ok (goInt (Nat.min sLen dLen)) (w.setRow g (cur.toList.take o ++ cs ++ cur.toList.drop (o + cs.length)).toArray) := by
  have hl := run_loadCells_list (P := P) w a cs hsrc
  have hst := run_storeCells_at P g o t cs 0 cur w hg (by simpa using hfit) h1
  cases hq : P.info? elem with
  | none => simp [hq] at hs
  | some i =>
    have hi : i.size = sz := by simpa [hq] using hs
    rw [hn] at hl
    simp only [Nat.add_zero] at hst
    simp [Builtin.copy_, run_underlying hu, Builtin.lenOf, Builtin.firstCells, sizeOf, typeInfo, hq, hi, hl, hst]
theorem sizeTm : (Tryd.prog.info? 48).map (·.size) = some 2 := by kernel_rfl
theorem tms_ones (l : List Tm) : ∀ u ∈ l.flatMap Tm.cells, u.oneCell' = true := by
  intro u hu
  obtain ⟨p, _, hp⟩ := List.mem_flatMap.1 hu
  simp only [Tm.cells, List.mem_cons, List.not_mem_nil, or_false] at hp
  rcases hp with rfl | rfl <;> rfl
theorem z9_drop (k : Nat) : ((List.replicate (k + 9) (⟨0, 0⟩ : Tm)).flatMap Tm.cells).drop (k * 2) = z9.flatMap Tm.cells := by
  unfold z9
  rw [mks_rep, mks_rep]
  refine List.ext_getElem? fun j => ?_
  rw [List.getElem?_drop]
  by_cases hj : j < 9 * 2
  · rw [mks_at (by omega), mks_at hj, mcell_even]
  · rw [List.getElem?_eq_none (by rw [mks_len]; omega), List.getElem?_eq_none (by rw [mks_len]; omega)]
theorem copy_tms {w : World} {base g len cap : Nat} {a : Option Addr} {l : List Tm} (ho : TOwn w base (.slice (some ⟨g, 0, none⟩) (len + 9) (len + 9)) (List.replicate (len + 9) ⟨0, 0⟩)) (hs : Tms w a len cap l) (ty : TypeId) :
    ∃ w2, Sem.run Tryd.prog (Builtin.copy_ #[22, 22] ty #[.slice (some ⟨g, 0, none⟩) (len + 9) (len + 9), .slice a len cap]) w = .ok (.int .i64 (len : Int)) w2 ∧ TOwn w2 base (.slice (some ⟨g, 0, none⟩) (len + 9) (len + 9)) (l ++ z9) ∧ Below g w w2 := by
  cases a with
  | none =>
    obtain ⟨rfl, rfl⟩ := hs.row.null rfl
    obtain rfl : l = [] := List.length_eq_zero_iff.1 hs.size
    exact ⟨w, run_copy_nilT w _ _ _ 48 _ _ _ 2 Tryd.underlying22 sizeTm, ho, Below.refl _ _⟩
  | some ad =>
    obtain ⟨h1, h2⟩ := ho
    rcases h2 with ⟨e, _⟩ | ⟨g', cap', cur, e, hg, hh, hnc, hcm, hcs, htake⟩
    · simp at e
    rw [List.length_replicate] at e hnc htake
    simp only [Value.slice.injEq, Option.some.injEq, Addr.mk.injEq, and_true, true_and] at e
    obtain ⟨rfl, rfl⟩ := e
    have hfl := fl_len tm2 l
    rw [hs.size] at hfl
    have hmin : Nat.min len (len + 9) = len := Nat.min_eq_left (by omega)
    have hcl : cur.toList = (List.replicate (len + 9) (⟨0, 0⟩ : Tm)).flatMap Tm.cells := by
      rw [← htake, List.take_of_length_le (by rw [Array.length_toList, hcs]; exact Nat.le_refl _)]
    have hrun := run_copy_wideT (P := Tryd.prog) w 22 22 ty 48 g 0 (len + 9) (len + 9) ad len cap cur 48 (l.flatMap Tm.cells) 2 Tryd.underlying22 sizeTm hh (by rw [hfl, hmin]) (fun j v hv => by
      obtain ⟨b, off, e, hc⟩ := hs.row.cell j v hv
      obtain rfl := Option.some.inj e
      rw [add_lit']
      exact hc) (by omega) (tms_ones l)
    rw [hmin] at hrun
    have hz : (l ++ z9).length = len + 9 := by rw [List.length_append, hs.size]; rfl
    refine ⟨_, hrun, ?_, below_setRow (Below.refl _ _) (Nat.le_refl _) _⟩
    have hnew : (List.take 0 cur.toList ++ l.flatMap Tm.cells ++ cur.toList.drop (0 + (l.flatMap Tm.cells).length)) = (l ++ z9).flatMap Tm.cells := by
      rw [List.take_zero, List.nil_append, Nat.zero_add, hfl, hcl, z9_drop, List.flatMap_append]
    refine ⟨by rw [fl_len tm2], .inr ⟨g, len + 9, _, by rw [hz], hg, setRow_heap w g cur _ _ (0, 0) hh, by rw [hz]; exact Nat.le_refl _, hcm, ?_, ?_⟩⟩
    · rw [hnew, List.size_toArray, fl_len tm2, hz]
    · rw [hnew, hz, List.take_of_length_le (by rw [fl_len tm2, hz]; exact Nat.le_refl _)]
end Go.Proofs.YtdckpecalglnoaaDoor
