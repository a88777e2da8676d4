/-
  A page marked as written: its key; the fixed state's one page.
-/
import Derived.Test.YtkjbcnlhallcdaaVsSome
import Derived.Test.YtkjbcnlhallcdaaVdCopy
namespace Go.Proofs.Ytkjbcnlhallcdaa
open Go.RowKit FerryCrc
set_option linter.unusedVariables false
set_option linter.unusedSimpArgs false

theorem page_dirty {D : Nat} {row : List Value} {l : List Lit} (h : Try.prog.keyLits D 40 row = some l) (d' : Bool) : ∃ x d ds ld D', row = .int .i64 x :: .bool d :: ds ∧ l = .int .i64 x :: .bool d :: ld ∧ ds.length = 64 ∧ Try.prog.keyLits D' 40 (.int .i64 x :: .bool d' :: ds) = some (.int .i64 x :: .bool d' :: ld) := by
  cases D with
  | zero => simp [Program.keyLits] at h
  | succ D =>
    unfold Program.keyLits at h
    simp only [Try.underlying40] at h
    have hc : Try.prog.cellsOf 40 = 66 := by kernel_rfl
    have c0 : Try.prog.cellsOf 3 = 1 := by kernel_rfl
    have c1 : Try.prog.cellsOf 4 = 1 := by kernel_rfl
    have c2 : Try.prog.cellsOf 38 = 64 := by kernel_rfl
    split at h
    · rename_i hl
      have hlen := hl.1
      rw [hc] at hlen
      simp only [List.mapM_cons, List.mapM_nil, c0, c1, c2, Option.map_eq_some_iff] at h
      obtain ⟨ls, hls, hfl⟩ := h
      simp only [Option.pure_def, Option.bind_eq_bind, Option.bind_eq_some_iff, Option.some.injEq] at hls
      obtain ⟨l0, h0, ls1, ⟨l1, h1, ls2, ⟨l2, h2, ls3, e3, e2⟩, e1⟩, e0⟩ := hls
      obtain ⟨x, ex, rfl⟩ := keyLits_int' Try.underlying3 h0
      obtain ⟨d, ed, rfl⟩ := keyLits_bool' Try.underlying4 h1
      have hd : (row.drop 2).take 64 = row.drop 2 := List.take_of_length_le (by rw [List.length_drop, hlen]; decide)
      rw [hd] at h2
      have hds : (row.drop 2).length = 64 := by rw [List.length_drop, hlen]
      rw [ex] at h0
      have hb : Try.prog.keyLits D 4 [.bool d'] = some [.bool d'] := by
        cases D with
        | zero => simp [Program.keyLits] at h1
        | succ D =>
          unfold Program.keyLits
          simp only [Try.underlying4]
      refine ⟨x, d, row.drop 2, l2, D + 1, ?_, ?_, hds, ?_⟩
      · match row, hlen with
        | r0 :: r1 :: rs, _ =>
          simp at ex ed
          rw [ex, ed]
          rfl
      · subst e3 e2 e1 e0
        rw [← hfl]
        simp
      · unfold Program.keyLits
        simp only [Try.underlying40]
        rw [if_pos ⟨by rw [hc]; simp only [List.length_cons, hds], hl.2⟩]
        simp only [List.mapM_cons, List.mapM_nil, c0, c1, c2, List.drop_zero, List.take_succ_cons, List.take_zero, List.drop_succ_cons, h0, hb, Option.pure_def, Option.bind_eq_bind, Option.bind_some]
        rw [List.take_of_length_le (by omega), h2]
        simp
    · cases h
theorem someS_one : (someS Try.prog.keyLits).pages.length = 1 := by simp [someS, keysOf]
set_option maxRecDepth 100000 in
theorem someS_clean : (keysOf Try.prog.keyLits 4 40 66 1 somePage.toList).map (fun l => l[1]?) = [some (.bool false)] := by kernel_rfl
theorem poke_heap {w w' : World} (p : Addr) (u : Value) {b : Nat} (h : w'.heap[b]? = w.heap[b]?) : (w'.setCell p u).heap[b]? = (w.setCell p u).heap[b]? := by
  simp only [World.setCell, Array.getElem?_modify, h]
theorem poke_below {w w' : World} (p : Addr) (u : Value) (h : Below w.heap.size w w') : Below (w.setCell p u).heap.size (w.setCell p u) (w'.setCell p u) :=
  ⟨h.os, h.tape, h.output, by simpa [World.setCell] using h.size, fun k hk => poke_heap p u (h.block k (by simpa [World.setCell] using hk))⟩
/-- A copy of the fixed state, its page marked as written. -/
theorem poke_state {s : Sk} (hone : s.pages.length = 1) (hcl : s.pages.map (fun l => l[1]?) = [some (.bool false)]) {w : World} {lo g n9 c9 : Nat} {cs r9 : List Value} (hown : w.ownsRow lo 40 66 (.slice (some ⟨g, 0, none⟩) n9 c9) n9 r9) (hk : Kr w 40 66 80 (some ⟨g, 0, none⟩) n9 c9 r9 s.pages)
    (hf : ∀ W K' r', (∀ b, lo ≤ b → (Value.slice (some ⟨g, 0, none⟩) n9 c9).ownBlock ≠ some b → W.heap[b]? = w.heap[b]?) → Kr W 40 66 80 (some ⟨g, 0, none⟩) n9 c9 r' K' → Sr W cs { s with pages := K' }) :
    n9 = 1 ∧ w.cell? ⟨g, 1, none⟩ = some (.bool false) ∧ w.frozen? ⟨g, 1, none⟩ = false ∧ ∃ s', Sr (w.setCell ⟨g, 1, none⟩ (.bool true)) cs s' ∧ ¬ s.same s' ∧ s.alike s' := by
  have hn : n9 = 1 := by rw [← hk.size]; exact hone
  subst hn
  obtain ⟨l0, hl0⟩ : ∃ l0, s.pages = [l0] := by
    match hh : s.pages, hone with
    | [l0], _ => exact ⟨l0, rfl⟩
  obtain ⟨D, hD⟩ := hk.keys 0 l0 (by rw [hl0]; rfl)
  have hlen : r9.length = 66 := by have := hown.1; omega
  rw [Nat.zero_mul, List.drop_zero, List.take_of_length_le (by omega)] at hD
  obtain ⟨x, d, ds, ld, D', hrow, hl, hds, hD'⟩ := page_dirty hD true
  have hd : d = false := by
    have h := hcl
    rw [hl0, hl] at h
    simpa using h
  subst hd
  have hr1 : r9[1]? = some (.bool false) := by rw [hrow]; rfl
  have hset : r9.set 1 (.bool true) = .int .i64 x :: .bool true :: ds := by rw [hrow]; rfl
  refine ⟨rfl, by rw [hown.cellAt 1 (by decide)]; exact hr1, hown.frozenAt 1, _, hf (w.setCell ⟨g, 1, none⟩ (.bool true)) [.int .i64 x :: .bool true :: ld] (r9.set 1 (.bool true)) (fun b hb hne => Below.heap_setCell _ _ _ _ (fun e => hne (by rw [e]; rfl))) ?_, ?_, ?_⟩
  · have ho := (hown.stored 1 (.bool true)).1
    refine ⟨(own_lg ho).row, rfl, hk.most, fun u hu => ?_, fun k l hkl => ?_⟩
    · rcases List.mem_or_eq_of_mem_set hu with hu | rfl
      · exact hk.one u hu
      · rfl
    · match k, hkl with
      | 0, hkl =>
        obtain rfl := Option.some.inj hkl
        refine ⟨D', ?_⟩
        rw [Nat.zero_mul, List.drop_zero, List.take_of_length_le (by rw [List.length_set]; omega), hset]
        exact hD'
      | k + 1, hkl => simp at hkl
  · intro h
    have h2 : s.pages = [.int .i64 x :: .bool true :: ld] := h.2.2
    rw [hl0, hl] at h2
    simp at h2
  · refine ⟨⟨rfl, rfl, rfl, rfl, rfl, rfl, rfl, rfl⟩, ?_⟩
    show s.pages.map pk = [.int .i64 x :: .bool true :: ld].map pk
    rw [hl0, hl]
    rfl
theorem some_marked (w : World) : Calls Try.prog 5 #[] w fun e w' => ∃ x2 x3 x4 x6 cs s, e = .returned (.tuple #[.agg #[.int .i64 7, .bool false, .slice x2 1 1, .slice x3 2 2, .slice x4 1 1, .int .i64 2, .slice x6 1 1], .agg cs.toArray]) ∧ Sr w' cs s ∧ Below w.heap.size w w' ∧ s.pages.length = 1 ∧ s.pages.map (fun l => l[1]?) = [some (.bool false)] :=
  (some_exact w).mono fun e w' ⟨x2, x3, x4, x6, cs, h1, h2, h3⟩ => ⟨x2, x3, x4, x6, cs, (someS Try.prog.keyLits), h1, h2, h3, someS_one, someS_clean⟩
end Go.Proofs.Ytkjbcnlhallcdaa
