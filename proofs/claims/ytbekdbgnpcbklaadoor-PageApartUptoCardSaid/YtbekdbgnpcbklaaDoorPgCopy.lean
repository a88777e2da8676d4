/-
  The program's Copy: make and copy of whole pages.
-/
import Derived.Test.YtbekdbgnpcbklaaDoorPgUpd
namespace Go.Proofs.YtbekdbgnpcbklaaDoor
open Go.RowKit FerryCrc
set_option linter.unusedVariables false

theorem Pgs.flat_cells {w : World} {ad : Addr} {len cap : Nat} {l : List Pg} (h : Pgs w (some ad) len cap l) : ∀ j v, (flat l)[j]? = some v → w.cell? (ad.add j) = some v := by
  intro j v hv
  have hj := (List.getElem?_eq_some_iff.1 hv).1
  rw [flat_len h.ok] at hj
  have hk : j / 66 < l.length := by omega
  obtain ⟨p, hp⟩ : ∃ p, l[j / 66]? = some p := ⟨_, List.getElem?_eq_getElem hk⟩
  obtain ⟨b, off, e, hr⟩ := h.cell _ p hp
  obtain rfl := Option.some.inj e
  have h1 := flat_get h.ok (k := j / 66) (j % 66) hp (by omega)
  rw [show j / 66 * 66 + j % 66 = j by omega, hv] at h1
  have h2 := hr (j % 66) v h1.symm
  rw [add_none]
  rw [show off + j / 66 * 66 + j % 66 = off + j by omega] at h2
  exact h2

theorem run_copy_nil {P : Program} (w : World) (dT sT ty elem : TypeId) (d : Option Addr) (dLen dCap : Nat) (sz : Nat)
    (hu : P.underlying dT = some (.slice elem)) (hs : (P.info? elem).map (·.size) = some sz) :
    (Builtin.copy_ #[dT, sT] ty #[.slice d dLen dCap, .slice none 0 0]).run P w = .ok (goInt 0) w := by
  cases hq : P.info? elem with
  | none => simp [hq] at hs
  | some i =>
    simp [Builtin.copy_, run_underlying hu, Builtin.lenOf, Builtin.firstCells, sizeOf, typeInfo, hq]
    cases d <;> simp [storeCells]

/-- copy of pages into as many pages of the call's own. -/
theorem copy_pages {w : World} {base g len cap : Nat} {xs : List Value} {a : Option Addr} {l : List Pg} (ho : w.ownsRow base 59 66 (.slice (some ⟨g, 0, none⟩) len len) len xs) (hs : Pgs w a len cap l) (ty : TypeId) :
    ∃ w2, Sem.run Tryd.prog (Builtin.copy_ #[22, 22] ty #[.slice (some ⟨g, 0, none⟩) len len, .slice a len cap]) w = .ok (.int .i64 (len : Int)) w2 ∧ POwn w2 base (.slice (some ⟨g, 0, none⟩) len len) l ∧ Below g w w2 := by
  cases a with
  | none =>
    obtain ⟨rfl, rfl⟩ := hs.null rfl
    obtain rfl : l = [] := List.length_eq_zero_iff.1 hs.size
    refine ⟨w, run_copy_nil w _ _ _ 59 _ _ _ 66 Tryd.underlying22 sizePage, ?_, Below.refl _ _⟩
    obtain rfl : xs = [] := List.length_eq_zero_iff.1 (by simpa using ho.1)
    exact ho
  | some ad =>
    obtain ⟨h1, h2⟩ := ho
    rcases h2 with ⟨e, _⟩ | ⟨g', cap', cur, e, hg, hh, hnc, hcm, hcs, htake⟩
    · simp at e
    simp only [Value.slice.injEq, Option.some.injEq, Addr.mk.injEq, and_true, true_and] at e
    obtain ⟨rfl, rfl⟩ := e
    have hfl := flat_len hs.ok
    rw [hs.size] at hfl
    have hmin : Nat.min len len = len := Nat.min_self len
    have hrun := run_copy_wide (P := Tryd.prog) w 22 22 ty 59 g 0 len len ad len cap cur 59 (flat l) 66 Tryd.underlying22 sizePage hh (by rw [hfl, hmin]) hs.flat_cells (by omega) (flat_one l)
    rw [hmin] at hrun
    refine ⟨_, hrun, ?_, below_setRow (Nat.le_refl _) _ (Below.refl _ _)⟩
    refine ⟨by rw [hs.size, hfl], .inr ⟨g, len, _, by rw [hs.size], hg, setRow_heap w g cur _ _ (0, 0) hh, by rw [hs.size]; exact Nat.le_refl _, hcm, ?_, ?_⟩⟩
    · simp only [List.take_zero, List.nil_append, List.size_toArray, List.length_append, List.length_drop, Array.length_toList]
      omega
    · simp only [List.take_zero, List.nil_append]
      rw [hs.size, List.take_left' hfl]

set_option maxRecDepth 100000 in
set_option maxHeartbeats 400000 in
theorem copy_any (a : Option Addr) (len cap : Nat) (l : List Pg) (w : World) (hs : Pgs w a len cap l) :
    Calls Tryd.prog 20 #[.slice a len cap] w fun e w' => ∃ g, e = .returned (.slice (some ⟨g, 0, none⟩) len len) ∧ w.heap.size ≤ g ∧ POwn w' w.heap.size (.slice (some ⟨g, 0, none⟩) len len) l ∧ Below w.heap.size w w' := by
  have hm := hs.most
  have HS := hide hs
  have HI := hide infoPage
  clear hs
  go_enter Tryd.func20, Tryd.ntmps20
  go_wp2_with (obtain ⟨i, z, hi, hz, hsz, hby, hzs⟩ := HI.out; refine wpList_make_full w rfl (.tmp 5) (.tmp 5) 22 rfl w.heap.size 59 i z 66 Tryd.underlying22 hi hz hsz .i64 .i64 (len : Int) (len : Int) len rfl rfl rfl rfl (by rw [hby]; omega) (by unfold maxLen; omega) (Nat.le_refl _) ?_; clear hi hz hsz hby hzs; intro w1 ho1 hg1)
  have hb1 : Below w.heap.size w w1 := (Below.refl _ _).grown hg1 (Nat.le_refl _) (fun k hk => by simp at hk)
  obtain ⟨w2, hrun, ho2, hb2⟩ := copy_pages ho1 (HS.out.below hb1) 3
  have O2 := hide ho2
  have B2 := hide (hb1.trans hb2)
  clear ho1 hg1 hb1 ho2 hb2
  rw [hrun]
  clear hrun
  simp only [Result.andThen_ok]
  go_wp2
  go_ret
  exact ⟨_, rfl, Nat.le_refl _, O2.out, B2.out⟩
end Go.Proofs.YtbekdbgnpcbklaaDoor
