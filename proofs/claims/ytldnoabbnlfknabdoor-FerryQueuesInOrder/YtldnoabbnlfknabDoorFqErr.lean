/-
  The errors of package api that ports answer, as they lie in memory; what the listed variables give at a call's beginning.
-/
import Derived.Test.YtldnoabbnlfknabDoorTiny
import Derived.Test.YtldnoabbnlfknabDoorFrameLite
import Derived.Test.YtldnoabbnlfknabDoorTie
import Derived.Test.YtldnoabbnlfknabDoorCards
import Derived.LaidMore
import Derived.LaidLaws
import Derived.LaidHandle
import Derived.Stop.Joined
import Derived.ChangeVars
import Derived.JoinedOf
import Derived.SevenTiedAt
namespace Go.Proofs.YtldnoabbnlfknabDoor
open Go.ChangeShapes Go.WideShapes Go.ChangeAt Go.RowKit

/-- A sentinel as an interface value. -/
def sent (a : Addr) : Value := .iface 202 (.pointer (some a))
/-- The errors as they lie in memory: E i is where the error of number i lies. -/
structure Errs (w : World) (E : Nat → Addr) : Prop where
  v4 : w.cell? ⟨3, 0, none⟩ = some (sent (E 4))
  v7 : w.cell? ⟨1, 0, none⟩ = some (sent (E 7))
  v8 : w.cell? ⟨5, 0, none⟩ = some (sent (E 8))
  v9 : w.cell? ⟨6, 0, none⟩ = some (sent (E 9))
  v11 : w.cell? ⟨2, 0, none⟩ = some (sent (E 11))
  v14 : w.cell? ⟨13, 0, none⟩ = some (sent (E 14))
  v17 : w.cell? ⟨4, 0, none⟩ = some (sent (E 17))
theorem cell_below {w w' : World} {a : Addr} {v : Value} (h : w.cell? a = some v) (hb : Below w.heap.size w w') : w'.cell? a = some v := by
  rw [hb.cell (p := a) (block_lt_of_cell h)]
  exact h
theorem Errs.below {w w' : World} {E : Nat → Addr} (h : Errs w E) (hb : Below w.heap.size w w') : Errs w' E :=
  ⟨cell_below h.v4 hb, cell_below h.v7 hb, cell_below h.v8 hb, cell_below h.v9 hb, cell_below h.v11 hb, cell_below h.v14 hb, cell_below h.v17 hb⟩
/-- An error value of number i (0: none) that tells no place. -/
def Bare (E : Nat → Addr) (v : Value) (i : Nat) : Prop := (v = .nilIface ∧ i = 0) ∨ (1 ≤ i ∧ i ≤ 20 ∧ v = sent (E i))
theorem bare_nil (E : Nat → Addr) : Bare E .nilIface 0 := .inl ⟨rfl, rfl⟩
theorem bare_sent (E : Nat → Addr) (i : Nat) (h1 : 1 ≤ i) (h2 : i ≤ 20) : Bare E (sent (E i)) i := .inr ⟨h1, h2, rfl⟩

/-- An error as errors.New makes it, as data. -/
def sentD (text : List UInt8) : DataW Unit := .iface "*errors.errorString" (.ptr (.agg [.lit (.string text)]))
/-- The listed errors: name, variable, text. -/
def listed (L : List (String × Nat × List UInt8)) : List (String × DataW Unit) := L.map fun x => (x.1, sentD x.2.2)

theorem star : Tryd.prog.typeName? 3 202 = some "*errors.errorString" := by kernel_rfl
theorem rowE : ∀ u, Tryd.prog.typeName? 3 u = some "*errors.errorString" → u = 202 := fun u h =>
  typeName_ptr_named (nm := "errors.errorString") (by kernel_rfl) (by kernel_rfl) (by decide) u h
theorem cellsES : Tryd.prog.cellsOf 223 = 1 := by kernel_rfl
theorem cellsS : Tryd.prog.cellsOf 9 = 1 := by kernel_rfl

theorem sentinels_of {P : Program} {W : World} {ti tp te ts : TypeId} {ms : Array (String × TypeId)} {f : Field}
    (hi : P.underlying ti = some (.interface ms)) (hrow : ∀ u, P.typeName? 3 u = some "*errors.errorString" → u = tp)
    (hp : P.underlying tp = some (.pointer te)) (he : P.underlying te = some (.struct #[f])) (hft : f.type = ts) (hfo : f.offset = 0) (hs : P.underlying ts = some .string) (hc : P.cellsOf te = 1) (hcs : P.cellsOf ts = 1) :
    ∀ (L : List (String × Nat × List UInt8)) (ps : List MemPlace), DataW.LaidVars P W (listed L) ps → ps.Nodup →
    (∀ b off, MemPlace.cell b off ∈ ps → (∃ c t, W.heap[b]? = some (.cells c t (0, 0))) ∧ ∀ u v, W.cell? ⟨b, off, none⟩ = some (.iface u v) → Value.okWide P W .any 0 u v) →
    (∀ x ∈ L, P.globalNamed x.1 = some x.2.1 ∧ (P.globals[x.2.1]?).map (·.type) = some ti) →
    ∃ As : List Addr, As.length = L.length ∧ As.Nodup ∧ (∀ a ∈ As, MemPlace.cell a.block a.off ∈ ps ∧ ∃ c t, W.heap[a.block]? = some (.cells c t (0, 0))) ∧
      ∀ (i : Nat) (x : String × Nat × List UInt8) (a : Addr), L[i]? = some x → As[i]? = some a → W.cell? ⟨x.2.1, 0, none⟩ = some (.iface tp (.pointer (some a))) := by
  intro L
  induction L with
  | nil => intro ps _ _ _ _; exact ⟨[], rfl, List.nodup_nil, by simp, by simp⟩
  | cons x L ih =>
    intro ps hv hnd hrows hnames
    obtain ⟨n, g, text⟩ := x
    obtain ⟨g0, t0, cs0, f0, p0, q0, hg0, ht0, hv0, hd0, hq, rfl⟩ := hv
    have hn := hnames (n, g, text) (by simp)
    obtain rfl := Option.some.inj (hn.1.symm.trans hg0)
    obtain rfl := Option.some.inj (hn.2.symm.trans ht0)
    obtain ⟨l0⟩ := cs0
    have ok0 : ∀ u v, l0 = [.iface u v] → Value.okWide P W .any 0 u v := fun u v e => by
      subst e
      exact (hrows g 0 (by simp [MemPlace.row])).2 u v (by simpa using World.var?_cell hg0 hv0 0)
    obtain ⟨a0, s0, rfl, hc0, hs0, hz0, rfl⟩ := errorString_of_trod hi hrow hp he hft hfo hs hc hcs hd0 ok0
    have hnd2 := (List.nodup_append.1 hnd).2.1
    obtain ⟨As, h1, h2, h3, h4⟩ := ih q0 hq hnd2 (fun b off hm => hrows b off (List.mem_append_right _ hm)) (fun x hx => hnames x (by simp [hx]))
    refine ⟨a0 :: As, by simp [h1], ?_, ?_, ?_⟩
    · refine List.nodup_cons.2 ⟨fun hm => ?_, h2⟩
      have hin := (h3 a0 hm).1
      exact (List.nodup_append.1 hnd).2.2 (.cell a0.block a0.off) (by simp [MemPlace.row]) (.cell a0.block a0.off) hin rfl
    · intro a ha
      rcases List.mem_cons.1 ha with rfl | ha
      · exact ⟨by simp [MemPlace.row], (hrows a.block a.off (by simp [MemPlace.row])).1⟩
      · exact ⟨List.mem_append_right _ (h3 a ha).1, (h3 a ha).2⟩
    · intro i x a hx ha
      cases i with
      | zero =>
        simp at hx ha
        subst hx ha
        simpa using World.var?_cell hg0 hv0 0
      | succ i => exact h4 i x a (by simpa using hx) (by simpa using ha)



def sevenNames : List (String × Nat × List UInt8) := [("ferry/api.ErrRange", 3, [97, 32, 110, 117, 109, 98, 101, 114, 32, 111, 117, 116, 32, 111, 102, 32, 105, 116, 115, 32, 114, 97, 110, 103, 101]), ("ferry/api.ErrKind", 1, [110, 111, 32, 115, 117, 99, 104, 32, 107, 105, 110, 100]), ("ferry/api.ErrPlan", 5, [110, 111, 116, 32, 111, 102, 32, 116, 104, 105, 115, 32, 112, 108, 97, 110]), ("ferry/api.ErrState", 6, [116, 104, 101, 32, 115, 116, 97, 116, 101, 32, 98, 114, 101, 97, 107, 115, 32, 97, 32, 114, 117, 108, 101]), ("ferry/api.ErrSize", 2, [116, 111, 111, 32, 108, 97, 114, 103, 101]), ("ferry/api.ErrBusy", 13, [115, 111, 109, 101, 116, 104, 105, 110, 103, 32, 105, 115, 32, 117, 110, 100, 101, 114, 32, 119, 97, 121]), ("ferry/api.ErrNone", 4, [116, 104, 101, 114, 101, 32, 105, 115, 32, 110, 111, 110, 101])]
theorem sevenNames_are : ∀ x ∈ sevenNames, Tryd.prog.globalNamed x.1 = some x.2.1 ∧ (Tryd.prog.globals[x.2.1]?).map (·.type) = some 29 := by
  intro x hx
  simp only [sevenNames, List.mem_cons, List.not_mem_nil, or_false] at hx
  rcases hx with rfl | rfl | rfl | rfl | rfl | rfl | rfl
  all_goals exact ⟨by kernel_rfl, by kernel_rfl⟩
theorem seven_parts {W : World} (h : laidMetH Tryd.prog (listed sevenNames) W) : laidMet Tryd.prog (listed sevenNames) W := h
set_option maxRecDepth 100000 in
theorem errs_of_laid {W : World} (h : laidMetH Tryd.prog (listed sevenNames) W) : ∃ E, Errs W E := by
  obtain ⟨ps, hv, hnd, hrows⟩ := seven_parts h
  obtain ⟨As, h1, h2, h3, h4⟩ := sentinels_of Tryd.underlying29 rowE Tryd.underlying202 Tryd.underlying223 rfl rfl Tryd.underlying9 cellsES cellsS sevenNames ps hv hnd hrows sevenNames_are
  have hlen : As.length = 7 := h1
  have hget : ∀ i, i < 7 → As[i]? = some (As.getD i ⟨0, 0, none⟩) := fun i hi => by simp [hlen, hi]
  refine ⟨fun i => As.getD (if i = 4 then 0 else if i = 7 then 1 else if i = 8 then 2 else if i = 9 then 3 else if i = 11 then 4 else if i = 14 then 5 else 6) ⟨0, 0, none⟩, h4 0 _ _ rfl (hget 0 (by decide)), h4 1 _ _ rfl (hget 1 (by decide)), h4 2 _ _ rfl (hget 2 (by decide)), h4 3 _ _ rfl (hget 3 (by decide)), h4 4 _ _ rfl (hget 4 (by decide)), h4 5 _ _ rfl (hget 5 (by decide)), h4 6 _ _ rfl (hget 6 (by decide))⟩
end Go.Proofs.YtldnoabbnlfknabDoor
