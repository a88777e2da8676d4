/-
  What ReadyStates' walk wants: Of and Into over states by keys; a state in memory that later stores leave alone.
-/
import Derived.Test.YtleeallnfmafnaaDoorStEq
import Derived.Test.YtleeallnfmafnaaDoorRyLaw
namespace Go.Proofs.YtleeallnfmafnaaDoor.Vv
open Go.RowKit FerryCrc
set_option linter.unusedVariables false
set_option linter.unusedSimpArgs false

theorem Srf.mono {lo lo' : Nat} {w : World} {cs : List Value} {s : Sk} (h : Srf lo w cs s) (hl : lo' ≤ lo) : Srf lo' w cs s := fun W hW => h W fun b hb => hW b (Nat.le_trans hl hb)
theorem Srf.hi {lo : Nat} {w : World} {cs : List Value} {s : Sk} (h : Srf lo w cs s) {W : World} (hs : w.heap.size ≤ W.heap.size) (hW : ∀ b, lo ≤ b → b < w.heap.size → W.heap[b]? = w.heap[b]?) : Sr W cs s := by
  have h1 : Sr { W with heap := W.heap.extract 0 w.heap.size } cs s := h _ fun b hb => by
    show (W.heap.extract 0 w.heap.size)[b]? = _
    rw [Array.getElem?_extract]
    by_cases hlt : b < w.heap.size
    · rw [if_pos (by omega), Nat.zero_add]
      exact hW b hb hlt
    · rw [if_neg (by omega)]
      exact (Array.getElem?_eq_none (by omega)).symm
  refine h1.below ⟨rfl, rfl, rfl, ?_, fun k hk => ?_⟩
  · show (W.heap.extract 0 w.heap.size).size ≤ _
    simp
    omega
  · have hk' : k < (W.heap.extract 0 w.heap.size).size := hk
    show _ = (W.heap.extract 0 w.heap.size)[k]?
    rw [Array.getElem?_extract, if_pos (by simp at hk'; omega), Nat.zero_add]
/-- A state whose lists all lie in blocks from lo on, none of them in block g. -/
def Srg (lo g : Nat) (w : World) (cs : List Value) (s : Sk) : Prop := ∀ W, w.heap.size ≤ W.heap.size → (∀ b, lo ≤ b → b < w.heap.size → b ≠ g → W.heap[b]? = w.heap[b]?) → Sr W cs s
theorem Srg.below {lo g : Nat} {w w' : World} {cs : List Value} {s : Sk} (h : Srg lo g w cs s) (hb : Below w.heap.size w w') : Srg lo g w' cs s := fun W h1 h2 => h W (Nat.le_trans hb.size h1) fun b hb1 hb2 hb3 => (h2 b hb1 (Nat.lt_of_lt_of_le hb2 hb.size) hb3).trans (hb.block b hb2)
theorem Srg.set {lo g : Nat} {w : World} {cs : List Value} {s : Sk} (h : Srg lo g w cs s) {p : Addr} (hp : p.block < lo ∨ p.block = g) (u : Value) : Srg lo g (w.setCell p u) cs s := fun W h1 h2 => h W (by simpa [World.setCell] using h1) fun b hb1 hb2 hb3 => (h2 b hb1 (by simpa [World.setCell] using hb2) hb3).trans (Below.heap_setCell _ _ _ _ (by rcases hp with hp | hp <;> omega))
theorem Srg.sr {lo g : Nat} {w : World} {cs : List Value} {s : Sk} (h : Srg lo g w cs s) : Sr w cs s := h w (Nat.le_refl _) fun _ _ _ _ => rfl
theorem Srf.srg {lo g : Nat} {w : World} {cs : List Value} {s : Sk} (h : Srf lo w cs s) (hg : g < lo ∨ w.heap.size ≤ g) : Srg lo g w cs s := fun W h1 h2 => h.hi h1 fun b hb1 hb2 => h2 b hb1 hb2 (by omega)
theorem of_sr (w : World) (s : Sk) (cs : List Value) (hs : Sr w cs s) :
    Calls Tryd.prog 6 #[.agg cs.toArray] w fun e w' => ∃ a1 n1 c1 r1 a2 n2 c2 r2 a3 n3 c3 r3, e = .returned (.agg #[.slice a1 n1 c1, .slice a2 n2 c2, .slice a3 n3 c3]) ∧ w'.ownsRow w.heap.size 64 21 (.slice a1 n1 c1) n1 r1 ∧ w'.ownsRow w.heap.size 3 1 (.slice a2 n2 c2) n2 r2 ∧ w'.ownsRow w.heap.size 66 2 (.slice a3 n3 c3) n3 r3 ∧
      Kr w' 64 21 104 a1 n1 c1 r1 s.procs ∧ Kr w' 3 1 8 a2 n2 c2 r2 s.ready ∧ Kr w' 66 2 16 a3 n3 c3 r3 s.timers ∧ Below w.heap.size w w' := by
  obtain ⟨a3, n3, c3, r3, a4, n4, c4, r4, a5, n5, c5, r5, a6, n6, c6, r6, a7, n7, c7, r7, a8, n8, c8, r8, a9, n9, c9, r9, ecs, h3, h4, h5, h6, h7, h8, h9⟩ := hs
  subst ecs
  refine (of_any w _ _ _ _ _ _ _ a3 n3 c3 r3 h3.row a4 n4 c4 r4 h4.row a5 n5 c5 r5 h5.row h3.one h4.one h5.one h3.most h4.most h5.most).mono ?_
  rintro e w' ⟨x1, d1, x2, d2, x3, d3, rfl, o1, o2, o3, b⟩
  exact ⟨x1, n3, d1, r3, x2, n4, d2, r4, x3, n5, d3, r5, rfl, o1, o2, o3, h3.at_ (own_lg o1).row, h4.at_ (own_lg o2).row, h5.at_ (own_lg o3).row, b⟩
theorem rOf_sr (w0 w : World) (s : Sk) (cs : List Value) (hs : Sr w0 cs s) :
    Calls Tryd.prog 5 #[.agg cs.toArray] w fun e w' => ∃ a1 n1 c1 r1 a2 n2 c2 r2 a3 n3 c3 r3, e = .returned (.agg #[.slice a1 n1 c1, .slice a2 n2 c2, .slice a3 n3 c3]) ∧ cs[3]? = some (.slice a1 n1 c1) ∧ cs[4]? = some (.slice a2 n2 c2) ∧ cs[5]? = some (.slice a3 n3 c3) ∧
      Kr w0 64 21 104 a1 n1 c1 r1 s.procs ∧ Kr w0 3 1 8 a2 n2 c2 r2 s.ready ∧ Kr w0 66 2 16 a3 n3 c3 r3 s.timers ∧ Below w.heap.size w w' := by
  obtain ⟨a3, n3, c3, r3, a4, n4, c4, r4, a5, n5, c5, r5, a6, n6, c6, r6, a7, n7, c7, r7, a8, n8, c8, r8, a9, n9, c9, r9, ecs, h3, h4, h5, h6, h7, h8, h9⟩ := hs
  subst ecs
  refine (rOf_any w _ _ _ _ _ _ _ a3 a4 a5 n3 c3 n4 c4 n5 c5).mono ?_
  rintro e w' ⟨rfl, b⟩
  exact ⟨a3, n3, c3, r3, a4, n4, c4, r4, a5, n5, c5, r5, rfl, rfl, rfl, rfl, h3, h4, h5, b⟩
theorem from_slices (w : World) (a1 a2 a3 : Option Addr) (n1 c1 n2 c2 n3 c3 : Nat) :
    Calls Tryd.prog 10 #[.agg #[.slice a1 n1 c1, .slice a2 n2 c2, .slice a3 n3 c3]] w fun e w' => e = .returned (.agg #[.slice a1 n1 c1, .slice a2 n2 c2, .slice a3 n3 c3]) ∧ Below w.heap.size w w' := by
  have HB := hide (chain (one_below w (.cells #[.slice a1 n1 c1, .slice a2 n2 c2, .slice a3 n3 c3] 34)) (one_below (w.alloc (.cells #[.slice a1 n1 c1, .slice a2 n2 c2, .slice a3 n3 c3] 34)) (.cells #[.slice a1 n1 c1, .slice a2 n2 c2, .slice a3 n3 c3] 31)))
  go_enter Tryd.func10, Tryd.ntmps10
  go_wp2
  refine bodyPost_ret (v := .agg #[.slice a1 n1 c1, .slice a2 n2 c2, .slice a3 n3 c3]) (by simp [results, Tryd.results10, go_sem]) rfl ?_
  exact ⟨rfl, HB.out⟩
theorem to_slices (w : World) (a1 a2 a3 : Option Addr) (n1 c1 n2 c2 n3 c3 : Nat) :
    Calls Tryd.prog 8 #[.agg #[.slice a1 n1 c1, .slice a2 n2 c2, .slice a3 n3 c3]] w fun e w' => e = .returned (.agg #[.slice a1 n1 c1, .slice a2 n2 c2, .slice a3 n3 c3]) ∧ Below w.heap.size w w' := to_any w _ _ _ ⟨_, _, _, rfl⟩ ⟨_, _, _, rfl⟩ ⟨_, _, _, rfl⟩
theorem bl_range {w : World} {g : Nat} {cs : List Value} (h : Bl w g cs) : w.rangeAt g 0 cs := fun j v hv => by rw [Nat.zero_add]; exact h.cell j v hv
theorem state_cells {w : World} {cs : List Value} {s : Sk} (h : Sr w cs s) : cs.length = 10 := by
  obtain ⟨a3, n3, c3, r3, a4, n4, c4, r4, a5, n5, c5, r5, a6, n6, c6, r6, a7, n7, c7, r7, a8, n8, c8, r8, a9, n9, c9, r9, rfl, _⟩ := h
  rfl
/-- What a state's cells are. -/
theorem sr_open {w : World} {cs : List Value} {s : Sk} (h : Sr w cs s) : cs[0]? = some (.int .i64 s.id) ∧ cs[1]? = some (.int .i64 s.frame) ∧ cs[2]? = some (.int .i64 s.epoch) ∧ (∃ a n c, cs[6]? = some (.slice a n c) ∧ Kv w 4 1 a n s.up) ∧ (∃ a n c, cs[7]? = some (.slice a n c) ∧ Kv w 3 1 a n s.sems) ∧ (∃ a n c, cs[8]? = some (.slice a n c) ∧ Pv w a n s.ports) ∧ (∃ a n c, cs[9]? = some (.slice a n c) ∧ Kv w 43 66 a n s.pages) := by
  obtain ⟨a3, n3, c3, r3, a4, n4, c4, r4, a5, n5, c5, r5, a6, n6, c6, r6, a7, n7, c7, r7, a8, n8, c8, r8, a9, n9, c9, r9, rfl, h3, h4, h5, h6, h7, h8, h9⟩ := h
  exact ⟨rfl, rfl, rfl, ⟨_, _, _, rfl, h6.kv (by decide) (by decide)⟩, ⟨_, _, _, rfl, h7.kv (by decide) (by decide)⟩, ⟨_, _, _, rfl, h8.pv⟩, ⟨_, _, _, rfl, h9.kv (by decide) (by decide)⟩⟩
end Go.Proofs.YtleeallnfmafnaaDoor.Vv
