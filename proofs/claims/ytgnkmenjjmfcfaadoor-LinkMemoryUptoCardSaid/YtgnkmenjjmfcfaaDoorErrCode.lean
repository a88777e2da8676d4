/-
  What api.Code and api.Place say of the errors of package api: the number of the error, and its place.
-/
import Derived.Test.YtgnkmenjjmfcfaaDoorErrAs
namespace Go.Proofs.YtgnkmenjjmfcfaaDoor
open Go.RowKit Go.Extern.Stop Go.Stop Go.Extern FerryCrc

/-- The package's errors as they lie in memory: E i is where the error of number i lies. -/
structure Errs (w : World) (E : Nat → Addr) : Prop where
  v1 : w.cell? ⟨2, 0, none⟩ = some (sent (E 1))
  v2 : w.cell? ⟨3, 0, none⟩ = some (sent (E 2))
  v3 : w.cell? ⟨4, 0, none⟩ = some (sent (E 3))
  v4 : w.cell? ⟨5, 0, none⟩ = some (sent (E 4))
  v5 : w.cell? ⟨6, 0, none⟩ = some (sent (E 5))
  v6 : w.cell? ⟨7, 0, none⟩ = some (sent (E 6))
  v7 : w.cell? ⟨8, 0, none⟩ = some (sent (E 7))
  v8 : w.cell? ⟨9, 0, none⟩ = some (sent (E 8))
  v9 : w.cell? ⟨10, 0, none⟩ = some (sent (E 9))
  v10 : w.cell? ⟨11, 0, none⟩ = some (sent (E 10))
  v11 : w.cell? ⟨1, 0, none⟩ = some (sent (E 11))
  v12 : w.cell? ⟨0, 0, none⟩ = some (sent (E 12))
  v13 : w.cell? ⟨13, 0, none⟩ = some (sent (E 13))
  v14 : w.cell? ⟨14, 0, none⟩ = some (sent (E 14))
  v15 : w.cell? ⟨15, 0, none⟩ = some (sent (E 15))
  v16 : w.cell? ⟨16, 0, none⟩ = some (sent (E 16))
  v17 : w.cell? ⟨12, 0, none⟩ = some (sent (E 17))
  v18 : w.cell? ⟨17, 0, none⟩ = some (sent (E 18))
  v19 : w.cell? ⟨18, 0, none⟩ = some (sent (E 19))
  v20 : w.cell? ⟨19, 0, none⟩ = some (sent (E 20))
  row : ∀ i, 1 ≤ i → i ≤ 20 → ∃ c t, w.heap[(E i).block]? = some (.cells c t (0, 0))
  ne : ∀ i j, 1 ≤ i → i ≤ 20 → 1 ≤ j → j ≤ 20 → i ≠ j → E i ≠ E j
  handle : Handle w

theorem cell_below {w w' : World} {a : Addr} {v : Value} (h : w.cell? a = some v) (hb : Below w.heap.size w w') : w'.cell? a = some v := by
  rw [hb.cell (p := a) (block_lt_of_cell h)]
  exact h

theorem heap_below {w w' : World} {k : Nat} {o : Obj} (h : w.heap[k]? = some o) (hb : Below w.heap.size w w') : w'.heap[k]? = some o := by
  have hlt : k < w.heap.size := (Array.getElem?_eq_some_iff.1 h).1
  rw [hb.block k hlt]
  exact h

theorem Errs.below {w w' : World} {E : Nat → Addr} (h : Errs w E) (hb : Below w.heap.size w w') : Errs w' E :=
  ⟨cell_below h.v1 hb, cell_below h.v2 hb, cell_below h.v3 hb, cell_below h.v4 hb, cell_below h.v5 hb, cell_below h.v6 hb, cell_below h.v7 hb, cell_below h.v8 hb, cell_below h.v9 hb, cell_below h.v10 hb, cell_below h.v11 hb, cell_below h.v12 hb, cell_below h.v13 hb, cell_below h.v14 hb, cell_below h.v15 hb, cell_below h.v16 hb, cell_below h.v17 hb, cell_below h.v18 hb, cell_below h.v19 hb, cell_below h.v20 hb,
   fun i h1 h2 => by obtain ⟨c, t, e⟩ := h.row i h1 h2; exact ⟨c, t, heap_below e hb⟩, h.ne, cell_below h.handle hb⟩

/-- An error value of number i (0: none) that tells the place p (-1: none). -/
def IsErr (w : World) (E : Nat → Addr) (v : Value) (i : Nat) (p : Int) : Prop :=
  (v = .nilIface ∧ i = 0 ∧ p = -1) ∨ (1 ≤ i ∧ i ≤ 20 ∧ v = sent (E i) ∧ p = -1) ∨
  (1 ≤ i ∧ i ≤ 20 ∧ ∃ b o, v = .iface 97 (.pointer (some ⟨b, o, none⟩)) ∧ w.cell? ⟨b, o, none⟩ = some (.int .i64 p) ∧ w.cell? ⟨b, o + 1, none⟩ = some (sent (E i)))

theorem IsErr.below {w w' : World} {E : Nat → Addr} {v : Value} {i : Nat} {p : Int} (h : IsErr w E v i p) (hb : Below w.heap.size w w') : IsErr w' E v i p := by
  rcases h with h | h | ⟨h1, h2, b, o, hv, hc, hs⟩
  · exact .inl h
  · exact .inr (.inl h)
  · exact .inr (.inr ⟨h1, h2, b, o, hv, cell_below hc hb, cell_below hs hb⟩)

theorem is_any {w : World} {E : Nat → Addr} (he : Errs w E) (T : TypeId) (x : Value) (i : Nat) (p : Int) (hv : IsErr w E (.iface T x) i p) (j : Nat) (h1 : 1 ≤ j) (h2 : j ≤ 20) :
    Calls Tryd.prog 37 #[.iface T x, sent (E j)] w fun e w' => e = .returned (.bool (decide (i = j))) ∧ w = w' := by
  rcases hv with ⟨e, _⟩ | ⟨g1, g2, e, _⟩ | ⟨g1, g2, b, o, e, hc, hs⟩
  · cases e
  · rw [e]
    by_cases hij : i = j
    · subst hij
      simpa using is_same (E i) w
    · obtain ⟨c1, t1, r1⟩ := he.row i g1 g2
      obtain ⟨c2, t2, r2⟩ := he.row j h1 h2
      simpa [hij] using is_other (E i) (E j) c1 c2 t1 t2 w (he.ne i j g1 g2 h1 h2 hij) r1 r2
  · rw [e]
    by_cases hij : i = j
    · subst hij
      simpa using is_at_same b o (E i) w hs
    · obtain ⟨c1, t1, r1⟩ := he.row i g1 g2
      obtain ⟨c2, t2, r2⟩ := he.row j h1 h2
      simpa [hij] using is_at_other b o (E j) (E i) c1 c2 t1 t2 w hs (he.ne i j g1 g2 h1 h2 hij) r1 r2

theorem err_range {w : World} {E : Nat → Addr} {T : TypeId} {x : Value} {i : Nat} {p : Int} (hv : IsErr w E (.iface T x) i p) : 1 ≤ i ∧ i ≤ 20 := by
  rcases hv with ⟨e, _⟩ | ⟨g1, g2, _⟩ | ⟨g1, g2, _⟩
  · cases e
  · exact ⟨g1, g2⟩
  · exact ⟨g1, g2⟩

set_option maxRecDepth 100000 in
set_option maxHeartbeats 4000000 in
theorem code2_any {w : World} {E : Nat → Addr} (he : Errs w E) (T : TypeId) (x : Value) (i : Nat) (p : Int) (hv : IsErr w E (.iface T x) i p) (hi : 11 ≤ i) :
    Calls Tryd.prog 38 #[.iface T x] w fun e w' => e = .returned (.int .i64 (i : Int)) ∧ w = w' := by
  have v11 := he.v11
  have v12 := he.v12
  have v13 := he.v13
  have v14 := he.v14
  have v15 := he.v15
  have v16 := he.v16
  have v17 := he.v17
  have v18 := he.v18
  have v19 := he.v19
  have v20 := he.v20
  have hr := (err_range hv).2
  have HE := hide he
  have HV := hide hv
  clear he hv
  go_enter Tryd.func38, Tryd.ntmps38
  go_wp2_with (go_at_call 37; refine (is_any HE.out T x i p HV.out _ (by decide) (by decide)).mono ?_; rintro e w' ⟨rfl, rfl⟩)
  all_goals (go_ret; exact ⟨ret_int (by omega), rfl⟩)

set_option maxRecDepth 100000 in
set_option maxHeartbeats 4000000 in
theorem code_some {w : World} {E : Nat → Addr} (he : Errs w E) (T : TypeId) (x : Value) (i : Nat) (p : Int) (hv : IsErr w E (.iface T x) i p) :
    Calls Tryd.prog 23 #[.iface T x] w fun e w' => e = .returned (.int .i64 (i : Int)) ∧ w = w' := by
  have v1 := he.v1
  have v2 := he.v2
  have v3 := he.v3
  have v4 := he.v4
  have v5 := he.v5
  have v6 := he.v6
  have v7 := he.v7
  have v8 := he.v8
  have v9 := he.v9
  have v10 := he.v10
  have HE := hide he
  have HV := hide hv
  clear he hv
  go_enter Tryd.func23, Tryd.ntmps23
  go_wp2_with (first | (go_at_call 37; refine (is_any HE.out T x i p HV.out _ (by decide) (by decide)).mono ?_; rintro e w' ⟨rfl, rfl⟩) | (go_at_call 38; refine (code2_any HE.out T x i p HV.out (by have := (err_range HV.out).1; omega)).mono ?_; rintro e w' ⟨rfl, rfl⟩))
  all_goals (go_ret; exact ⟨ret_int (by omega), rfl⟩)

theorem code_none (w : World) :
    Calls Tryd.prog 23 #[.nilIface] w fun e w' => e = .returned (.int .i64 0) ∧ w = w' := by
  go_enter Tryd.func23, Tryd.ntmps23
  go_wp2
  go_ret
  exact ⟨rfl, rfl⟩

theorem code_any {w : World} {E : Nat → Addr} (he : Errs w E) (v : Value) (i : Nat) (p : Int) (hv : IsErr w E v i p) :
    Calls Tryd.prog 23 #[v] w fun e w' => e = .returned (.int .i64 (i : Int)) ∧ w = w' := by
  have hv0 := hv
  rcases hv with ⟨rfl, rfl, _⟩ | ⟨_, _, e, _⟩ | ⟨_, _, b, o, e, _⟩
  · exact code_none w
  · rw [e] at hv0 ⊢; exact code_some he _ _ i p hv0
  · rw [e] at hv0 ⊢; exact code_some he _ _ i p hv0
end Go.Proofs.YtgnkmenjjmfcfaaDoor
