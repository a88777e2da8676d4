/-
  What the listed variables of package api give at a call's beginning: each error's cell, each error in a place of its own; and the type of error that package errors keeps.
-/
import Derived.Test.YtgnkmenjjmfcfaaDoorFrameLite
import Derived.Test.YtgnkmenjjmfcfaaDoorErrCode
import Derived.Test.YtgnkmenjjmfcfaaDoorTie
import Derived.Test.YtgnkmenjjmfcfaaDoorCards
import Derived.LaidMore
import Derived.LaidLaws
import Derived.LaidHandle
import Derived.Stop.Joined
import Derived.ChangeVars
import Derived.JoinedOf
import Derived.SevenTiedAt
namespace Go.Proofs.YtgnkmenjjmfcfaaDoor
open Go.ChangeShapes Go.WideShapes Go.ChangeAt Go.RowKit

/-- An error as errors.New makes it, as data. -/
def sentD (text : List UInt8) : DataW Unit := .iface "*errors.errorString" (.ptr (.agg [.lit (.string text)]))
/-- The listed errors: name, variable, text. -/
def listed (L : List (String × Nat × List UInt8)) : List (String × DataW Unit) := L.map fun x => (x.1, sentD x.2.2)

theorem star : Tryd.prog.typeName? 3 148 = some "*errors.errorString" := by kernel_rfl
theorem rowE : ∀ u, Tryd.prog.typeName? 3 u = some "*errors.errorString" → u = 148 := fun u h =>
  typeName_ptr_named (nm := "errors.errorString") (by kernel_rfl) (by kernel_rfl) (by decide) u h
theorem cellsES : Tryd.prog.cellsOf 168 = 1 := by kernel_rfl
theorem cellsS : Tryd.prog.cellsOf 9 = 1 := by kernel_rfl

theorem sentinels_of {P : Program} {W : World} {ti tp te ts : TypeId} {ms : Array (String × TypeId)} {f : Field}
    (hi : P.underlying ti = some (.interface ms)) (hrow : ∀ u, P.typeName? 3 u = some "*errors.errorString" → u = tp)
    (hp : P.underlying tp = some (.pointer te)) (he : P.underlying te = some (.struct #[f])) (hft : f.type = ts) (hfo : f.offset = 0) (hs : P.underlying ts = some .string) (hc : P.cellsOf te = 1) (hcs : P.cellsOf ts = 1) :
    ∀ (L : List (String × Nat × List UInt8)) (ps : List MemPlace), DataW.LaidVars P W (listed L) ps → ps.Nodup →
    (∀ b off, MemPlace.cell b off ∈ ps → (∃ c t, W.heap[b]? = some (.cells c t (0, 0))) ∧ ∀ u v, W.cell? ⟨b, off, none⟩ = some (.iface u v) → Value.okWide P W .any 0 u v) →
    (∀ x ∈ L, P.globalNamed x.1 = some x.2.1 ∧ (P.globals[x.2.1]?).map (·.type) = some ti) →
    ∃ As : List Addr, As.length = L.length ∧ As.Nodup ∧ (∀ a ∈ As, MemPlace.cell a.block a.off ∈ ps ∧ ∃ c t, W.heap[a.block]? = some (.cells c t (0, 0))) ∧
      ∀ (i : Nat) (x : String × Nat × List UInt8) (a : Addr), L[i]? = some x → As[i]? = some a → W.cell? ⟨x.2.1, 0, none⟩ = some (.iface tp (.pointer (some a))) := by
  intro L
  induction L with
  | nil => intro ps _ _ _ _; exact ⟨[], rfl, List.nodup_nil, by simp, by simp⟩
  | cons x L ih =>
    intro ps hv hnd hrows hnames
    obtain ⟨n, g, text⟩ := x
    obtain ⟨g0, t0, cs0, f0, p0, q0, hg0, ht0, hv0, hd0, hq, rfl⟩ := hv
    have hn := hnames (n, g, text) (by simp)
    obtain rfl := Option.some.inj (hn.1.symm.trans hg0)
    obtain rfl := Option.some.inj (hn.2.symm.trans ht0)
    obtain ⟨l0⟩ := cs0
    have ok0 : ∀ u v, l0 = [.iface u v] → Value.okWide P W .any 0 u v := fun u v e => by
      subst e
      exact (hrows g 0 (by simp [MemPlace.row])).2 u v (by simpa using World.var?_cell hg0 hv0 0)
    obtain ⟨a0, s0, rfl, hc0, hs0, hz0, rfl⟩ := errorString_of_trod hi hrow hp he hft hfo hs hc hcs hd0 ok0
    have hnd2 := (List.nodup_append.1 hnd).2.1
    obtain ⟨As, h1, h2, h3, h4⟩ := ih q0 hq hnd2 (fun b off hm => hrows b off (List.mem_append_right _ hm)) (fun x hx => hnames x (by simp [hx]))
    refine ⟨a0 :: As, by simp [h1], ?_, ?_, ?_⟩
    · refine List.nodup_cons.2 ⟨fun hm => ?_, h2⟩
      have hin := (h3 a0 hm).1
      exact (List.nodup_append.1 hnd).2.2 (.cell a0.block a0.off) (by simp [MemPlace.row]) (.cell a0.block a0.off) hin rfl
    · intro a ha
      rcases List.mem_cons.1 ha with rfl | ha
      · exact ⟨by simp [MemPlace.row], (hrows a.block a.off (by simp [MemPlace.row])).1⟩
      · exact ⟨List.mem_append_right _ (h3 a ha).1, (h3 a ha).2⟩
    · intro i x a hx ha
      cases i with
      | zero =>
        simp at hx ha
        subst hx ha
        simpa using World.var?_cell hg0 hv0 0
      | succ i => exact h4 i x a (by simpa using hx) (by simpa using ha)


def allNames : List (String × Nat × List UInt8) := [("ferry/api.ErrShort", 2, [116, 104, 101, 32, 98, 121, 116, 101, 115, 32, 101, 110, 100, 32, 116, 111, 111, 32, 101, 97, 114, 108, 121]), ("ferry/api.ErrRest", 3, [115, 111, 109, 101, 116, 104, 105, 110, 103, 32, 105, 115, 32, 108, 101, 102, 116, 32, 111, 118, 101, 114]), ("ferry/api.ErrTag", 4, [97, 110, 111, 116, 104, 101, 114, 32, 116, 97, 103, 32, 105, 115, 32, 119, 97, 110, 116, 101, 100]), ("ferry/api.ErrRange", 5, [97, 32, 110, 117, 109, 98, 101, 114, 32, 111, 117, 116, 32, 111, 102, 32, 105, 116, 115, 32, 114, 97, 110, 103, 101]), ("ferry/api.ErrLength", 6, [97, 32, 108, 101, 110, 103, 116, 104, 32, 116, 104, 97, 116, 32, 105, 115, 110, 39, 116, 32, 116, 104, 101, 32, 116, 104, 105, 110, 103, 39, 115]), ("ferry/api.ErrSum", 7, [116, 104, 101, 32, 99, 104, 101, 99, 107, 32, 115, 117, 109, 32, 105, 115, 32, 119, 114, 111, 110, 103]), ("ferry/api.ErrKind", 8, [110, 111, 32, 115, 117, 99, 104, 32, 107, 105, 110, 100]), ("ferry/api.ErrPlan", 9, [110, 111, 116, 32, 111, 102, 32, 116, 104, 105, 115, 32, 112, 108, 97, 110]), ("ferry/api.ErrState", 10, [116, 104, 101, 32, 115, 116, 97, 116, 101, 32, 98, 114, 101, 97, 107, 115, 32, 97, 32, 114, 117, 108, 101]), ("ferry/api.ErrBase", 11, [110, 111, 116, 32, 111, 118, 101, 114, 32, 116, 104, 105, 115, 32, 98, 97, 115, 101]), ("ferry/api.ErrSize", 1, [116, 111, 111, 32, 108, 97, 114, 103, 101]), ("ferry/api.ErrArg", 0, [97, 32, 119, 114, 111, 110, 103, 32, 97, 114, 103, 117, 109, 101, 110, 116]), ("ferry/api.ErrEnd", 13, [97, 32, 99, 111, 117, 110, 116, 101, 114, 32, 105, 115, 32, 97, 116, 32, 105, 116, 115, 32, 101, 110, 100]), ("ferry/api.ErrBusy", 14, [115, 111, 109, 101, 116, 104, 105, 110, 103, 32, 105, 115, 32, 117, 110, 100, 101, 114, 32, 119, 97, 121]), ("ferry/api.ErrDown", 15, [116, 104, 101, 32, 109, 111, 100, 117, 108, 101, 32, 105, 115, 32, 100, 111, 119, 110]), ("ferry/api.ErrLost", 16, [116, 104, 101, 32, 112, 97, 114, 116, 105, 116, 105, 111, 110, 32, 105, 115, 32, 108, 111, 115, 116]), ("ferry/api.ErrNone", 12, [116, 104, 101, 114, 101, 32, 105, 115, 32, 110, 111, 110, 101]), ("ferry/api.ErrText", 17, [97, 32, 116, 101, 120, 116, 32, 116, 104, 97, 116, 32, 105, 115, 110, 39, 116, 32, 111, 102, 32, 116, 104, 101, 32, 108, 97, 110, 103, 117, 97, 103, 101]), ("ferry/api.ErrStop", 18, [99, 97, 110, 99, 101, 108, 108, 101, 100]), ("ferry/api.ErrDivide", 19, [100, 105, 118, 105, 115, 105, 111, 110, 32, 98, 121, 32, 122, 101, 114, 111])]
def allLaid : List (String × DataW Unit) := ("errors.errorType", Rows.laid_errors_errorType) :: listed allNames
theorem allNames_are : ∀ x ∈ allNames, Tryd.prog.globalNamed x.1 = some x.2.1 ∧ (Tryd.prog.globals[x.2.1]?).map (·.type) = some 37 := by
  intro x hx
  simp only [allNames, List.mem_cons, List.not_mem_nil, or_false] at hx
  rcases hx with rfl | rfl | rfl | rfl | rfl | rfl | rfl | rfl | rfl | rfl | rfl | rfl | rfl | rfl | rfl | rfl | rfl | rfl | rfl | rfl
  · exact ⟨by kernel_rfl, by kernel_rfl⟩
  · exact ⟨by kernel_rfl, by kernel_rfl⟩
  · exact ⟨by kernel_rfl, by kernel_rfl⟩
  · exact ⟨by kernel_rfl, by kernel_rfl⟩
  · exact ⟨by kernel_rfl, by kernel_rfl⟩
  · exact ⟨by kernel_rfl, by kernel_rfl⟩
  · exact ⟨by kernel_rfl, by kernel_rfl⟩
  · exact ⟨by kernel_rfl, by kernel_rfl⟩
  · exact ⟨by kernel_rfl, by kernel_rfl⟩
  · exact ⟨by kernel_rfl, by kernel_rfl⟩
  · exact ⟨by kernel_rfl, by kernel_rfl⟩
  · exact ⟨by kernel_rfl, by kernel_rfl⟩
  · exact ⟨by kernel_rfl, by kernel_rfl⟩
  · exact ⟨by kernel_rfl, by kernel_rfl⟩
  · exact ⟨by kernel_rfl, by kernel_rfl⟩
  · exact ⟨by kernel_rfl, by kernel_rfl⟩
  · exact ⟨by kernel_rfl, by kernel_rfl⟩
  · exact ⟨by kernel_rfl, by kernel_rfl⟩
  · exact ⟨by kernel_rfl, by kernel_rfl⟩
  · exact ⟨by kernel_rfl, by kernel_rfl⟩

theorem et : Tryd.prog.globalNamed "errors.errorType" = some 20 := by kernel_rfl
theorem rt : (Tryd.prog.cutTypes.find? (·.1 == "internal/reflectlite.rtype")).map (·.2) = some 114 := by kernel_rfl
theorem oneRow : ((List.range 180).filter fun t => Tryd.prog.rowNamed t [101, 114, 114, 111, 114]) = [37] := by kernel_rfl
theorem ntypes : Tryd.prog.types.size = 180 := by kernel_rfl

theorem allLaid_parts {W : World} (h : laidMetH Tryd.prog allLaid W) : laidMet Tryd.prog (listed allNames) W ∧ handlesMet Tryd.prog [("errors.errorType", Rows.laid_errors_errorType)] W := h

set_option maxRecDepth 100000 in
theorem errs_of_laid {W : World} (h : laidMetH Tryd.prog allLaid W) : ∃ E, Errs W E := by
  obtain ⟨⟨ps, hv, hnd, hrows⟩, hh⟩ := allLaid_parts h
  obtain ⟨As, h1, h2, h3, h4⟩ := sentinels_of Tryd.underlying37 rowE Tryd.underlying148 Tryd.underlying168 rfl rfl Tryd.underlying9 cellsES cellsS allNames ps hv hnd hrows allNames_are
  have hlen : As.length = 20 := h1
  obtain ⟨name, u, ty, e1, e2, e3, e4, e5⟩ := hh _ (List.mem_singleton.2 rfl)
  have en : name = [101, 114, 114, 111, 114] := (Option.some.inj e1).symm
  subst en
  obtain rfl := Option.some.inj (rt.symm.trans e2)
  have hm : ty ∈ (List.range 180).filter fun t => Tryd.prog.rowNamed t [101, 114, 114, 111, 114] := List.mem_filter.2 ⟨List.mem_range.2 (by rw [← ntypes]; exact e3), e4⟩
  rw [oneRow] at hm
  obtain rfl := List.mem_singleton.1 hm
  have ht : typeHandle Tryd.prog 37 = .pointer (some ⟨21, 37, none⟩) := by kernel_rfl
  rw [ht] at e5
  have hcell : Handle W := by simpa [Handle] using World.var?_cell et e5 0
  have hget : ∀ i, i < 20 → As[i]? = some (As.getD i ⟨0, 0, none⟩) := fun i hi => by simp [hlen, hi]
  refine ⟨fun i => As.getD (i - 1) ⟨0, 0, none⟩, h4 0 _ _ rfl (hget 0 (by decide)), h4 1 _ _ rfl (hget 1 (by decide)), h4 2 _ _ rfl (hget 2 (by decide)), h4 3 _ _ rfl (hget 3 (by decide)), h4 4 _ _ rfl (hget 4 (by decide)), h4 5 _ _ rfl (hget 5 (by decide)), h4 6 _ _ rfl (hget 6 (by decide)), h4 7 _ _ rfl (hget 7 (by decide)), h4 8 _ _ rfl (hget 8 (by decide)), h4 9 _ _ rfl (hget 9 (by decide)), h4 10 _ _ rfl (hget 10 (by decide)), h4 11 _ _ rfl (hget 11 (by decide)), h4 12 _ _ rfl (hget 12 (by decide)), h4 13 _ _ rfl (hget 13 (by decide)), h4 14 _ _ rfl (hget 14 (by decide)), h4 15 _ _ rfl (hget 15 (by decide)), h4 16 _ _ rfl (hget 16 (by decide)), h4 17 _ _ rfl (hget 17 (by decide)), h4 18 _ _ rfl (hget 18 (by decide)), h4 19 _ _ rfl (hget 19 (by decide)), ?_, ?_, hcell⟩
  · intro i g1 g2
    exact (h3 _ (List.mem_of_getElem? (hget (i - 1) (by omega)))).2
  · intro i j g1 g2 g3 g4 hij heq
    have a1 := hget (i - 1) (by omega)
    have a2 := hget (j - 1) (by omega)
    rw [heq, ← a2] at a1
    have := (List.getElem?_inj (by omega) h2).1 a1
    omega
end Go.Proofs.YtgnkmenjjmfcfaaDoor
