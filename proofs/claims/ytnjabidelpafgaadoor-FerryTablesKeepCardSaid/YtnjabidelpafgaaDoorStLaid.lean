/-
  What the three listed errors give at a call's beginning.
-/
import Derived.Test.YtnjabidelpafgaaDoorTmForm
import Derived.Test.YtnjabidelpafgaaDoorFrameLite
import Derived.LaidMore
import Derived.LaidLaws
import Derived.LaidHandle
import Derived.Stop.Joined
import Derived.ChangeVars
import Derived.JoinedOf
import Derived.SevenTiedAt
namespace Go.Proofs.YtnjabidelpafgaaDoor
open Go.ChangeShapes Go.WideShapes Go.ChangeAt Go.RowKit

/-- An error as errors.New makes it, as data. -/
def sentD (text : List UInt8) : DataW Unit := .iface "*errors.errorString" (.ptr (.agg [.lit (.string text)]))
/-- The listed errors: name, variable, text. -/
def listed (L : List (String × Nat × List UInt8)) : List (String × DataW Unit) := L.map fun x => (x.1, sentD x.2.2)

theorem star : Tryd.prog.typeName? 3 112 = some "*errors.errorString" := by kernel_rfl
theorem rowE : ∀ u, Tryd.prog.typeName? 3 u = some "*errors.errorString" → u = 112 := fun u h =>
  typeName_ptr_named (nm := "errors.errorString") (by kernel_rfl) (by kernel_rfl) (by decide) u h
theorem cellsES : Tryd.prog.cellsOf 129 = 1 := by kernel_rfl
theorem cellsS : Tryd.prog.cellsOf 9 = 1 := by kernel_rfl

theorem sentinels_of {P : Program} {W : World} {ti tp te ts : TypeId} {ms : Array (String × TypeId)} {f : Field}
    (hi : P.underlying ti = some (.interface ms)) (hrow : ∀ u, P.typeName? 3 u = some "*errors.errorString" → u = tp)
    (hp : P.underlying tp = some (.pointer te)) (he : P.underlying te = some (.struct #[f])) (hft : f.type = ts) (hfo : f.offset = 0) (hs : P.underlying ts = some .string) (hc : P.cellsOf te = 1) (hcs : P.cellsOf ts = 1) :
    ∀ (L : List (String × Nat × List UInt8)) (ps : List MemPlace), DataW.LaidVars P W (listed L) ps → ps.Nodup →
    (∀ b off, MemPlace.cell b off ∈ ps → (∃ c t, W.heap[b]? = some (.cells c t (0, 0))) ∧ ∀ u v, W.cell? ⟨b, off, none⟩ = some (.iface u v) → Value.okWide P W .any 0 u v) →
    (∀ x ∈ L, P.globalNamed x.1 = some x.2.1 ∧ (P.globals[x.2.1]?).map (·.type) = some ti) →
    ∃ As : List Addr, As.length = L.length ∧ As.Nodup ∧ (∀ a ∈ As, MemPlace.cell a.block a.off ∈ ps ∧ ∃ c t, W.heap[a.block]? = some (.cells c t (0, 0))) ∧
      ∀ (i : Nat) (x : String × Nat × List UInt8) (a : Addr), L[i]? = some x → As[i]? = some a → W.cell? ⟨x.2.1, 0, none⟩ = some (.iface tp (.pointer (some a))) := by
  intro L
  induction L with
  | nil => intro ps _ _ _ _; exact ⟨[], rfl, List.nodup_nil, by simp, by simp⟩
  | cons x L ih =>
    intro ps hv hnd hrows hnames
    obtain ⟨n, g, text⟩ := x
    obtain ⟨g0, t0, cs0, f0, p0, q0, hg0, ht0, hv0, hd0, hq, rfl⟩ := hv
    have hn := hnames (n, g, text) (by simp)
    obtain rfl := Option.some.inj (hn.1.symm.trans hg0)
    obtain rfl := Option.some.inj (hn.2.symm.trans ht0)
    obtain ⟨l0⟩ := cs0
    have ok0 : ∀ u v, l0 = [.iface u v] → Value.okWide P W .any 0 u v := fun u v e => by
      subst e
      exact (hrows g 0 (by simp [MemPlace.row])).2 u v (by simpa using World.var?_cell hg0 hv0 0)
    obtain ⟨a0, s0, rfl, hc0, hs0, hz0, rfl⟩ := errorString_of_trod hi hrow hp he hft hfo hs hc hcs hd0 ok0
    have hnd2 := (List.nodup_append.1 hnd).2.1
    obtain ⟨As, h1, h2, h3, h4⟩ := ih q0 hq hnd2 (fun b off hm => hrows b off (List.mem_append_right _ hm)) (fun x hx => hnames x (by simp [hx]))
    refine ⟨a0 :: As, by simp [h1], ?_, ?_, ?_⟩
    · refine List.nodup_cons.2 ⟨fun hm => ?_, h2⟩
      have hin := (h3 a0 hm).1
      exact (List.nodup_append.1 hnd).2.2 (.cell a0.block a0.off) (by simp [MemPlace.row]) (.cell a0.block a0.off) hin rfl
    · intro a ha
      rcases List.mem_cons.1 ha with rfl | ha
      · exact ⟨by simp [MemPlace.row], (hrows a.block a.off (by simp [MemPlace.row])).1⟩
      · exact ⟨List.mem_append_right _ (h3 a ha).1, (h3 a ha).2⟩
    · intro i x a hx ha
      cases i with
      | zero =>
        simp at hx ha
        subst hx ha
        simpa using World.var?_cell hg0 hv0 0
      | succ i => exact h4 i x a (by simpa using hx) (by simpa using ha)


/-- The three errors that the laws' calls name. -/
def nineNames : List (String × Nat × List UInt8) := [("ferry/api.ErrState", 1, [116, 104, 101, 32, 115, 116, 97, 116, 101, 32, 98, 114, 101, 97, 107, 115, 32, 97, 32, 114, 117, 108, 101]), ("ferry/api.ErrArg", 0, [97, 32, 119, 114, 111, 110, 103, 32, 97, 114, 103, 117, 109, 101, 110, 116]), ("ferry/api.ErrNone", 2, [116, 104, 101, 114, 101, 32, 105, 115, 32, 110, 111, 110, 101])]
theorem nineNames_are : ∀ x ∈ nineNames, Tryd.prog.globalNamed x.1 = some x.2.1 ∧ (Tryd.prog.globals[x.2.1]?).map (·.type) = some 30 := by
  intro x hx
  simp only [nineNames, List.mem_cons, List.not_mem_nil, or_false] at hx
  rcases hx with rfl | rfl | rfl
  · exact ⟨by kernel_rfl, by kernel_rfl⟩
  · exact ⟨by kernel_rfl, by kernel_rfl⟩
  · exact ⟨by kernel_rfl, by kernel_rfl⟩
theorem nine_parts {W : World} (h : laidMetH Tryd.prog (listed nineNames) W) : laidMet Tryd.prog (listed nineNames) W := h
set_option maxRecDepth 100000 in
theorem er9_of_laid {W : World} (h : laidMetH Tryd.prog (listed nineNames) W) : ∃ E, Er9 W E := by
  obtain ⟨ps, hv, hnd, hrows⟩ := nine_parts h
  obtain ⟨As, h1, h2, h3, h4⟩ := sentinels_of Tryd.underlying30 rowE Tryd.underlying112 Tryd.underlying129 rfl rfl Tryd.underlying9 cellsES cellsS nineNames ps hv hnd hrows nineNames_are
  have hlen : As.length = 3 := h1
  have hget : ∀ i, i < 3 → As[i]? = some (As.getD i ⟨0, 0, none⟩) := fun i hi => by simp [hlen, hi]
  exact ⟨fun n => if n = 9 then As.getD 0 ⟨0, 0, none⟩ else if n = 12 then As.getD 1 ⟨0, 0, none⟩ else As.getD 2 ⟨0, 0, none⟩, ⟨h4 0 _ _ rfl (hget 0 (by decide)), h4 1 _ _ rfl (hget 1 (by decide)), h4 2 _ _ rfl (hget 2 (by decide))⟩⟩
end Go.Proofs.YtnjabidelpafgaaDoor
