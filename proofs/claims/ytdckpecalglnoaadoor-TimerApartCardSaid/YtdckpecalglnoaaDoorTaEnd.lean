/-
  Small facts for the last part of the law TimerApart.
-/
import Derived.Test.YtdckpecalglnoaaDoorTaCopy
import Derived.Test.YtdckpecalglnoaaDoorTmShift
namespace Go.Proofs.YtdckpecalglnoaaDoor
open Go.RowKit
set_option linter.unusedVariables false
set_option linter.unusedSimpArgs false

theorem five_row (w : World) (s0 s1 s2 s3 s4 : Sl) (t : TypeId) : Rcs Sl.cell 1 (w.alloc (.cells #[s0.v, s1.v, s2.v, s3.v, s4.v] t)) (some ⟨w.heap.size, 0, none⟩) 5 5 [s0, s1, s2, s3, s4] :=
  ⟨rfl, rfl, by decide, fun e => by simp at e, fun j v hv => ⟨w.heap.size, 0, rfl, by
    rw [Nat.zero_add]
    match j, hv with
    | 0, hv => exact (World.cell?_alloc_at _ _ _ _ rfl).trans hv
    | 1, hv => exact (World.cell?_alloc_at _ _ _ _ rfl).trans hv
    | 2, hv => exact (World.cell?_alloc_at _ _ _ _ rfl).trans hv
    | 3, hv => exact (World.cell?_alloc_at _ _ _ _ rfl).trans hv
    | 4, hv => exact (World.cell?_alloc_at _ _ _ _ rfl).trans hv
    | (j + 5), hv => simp [Sl.cell] at hv⟩⟩
theorem Five.lt {w : World} {B : Nat} {LL : List Sl} {MM : List (List Tm)} (h : Five w B LL MM) {s : Sl} (hs : s ∈ LL) {g : Nat} (hg : s.v.ownBlock = some g) : g < w.heap.size := by
  obtain ⟨j, hj⟩ := List.mem_iff_getElem?.1 hs
  obtain ⟨m, _, h2, _⟩ := h.all j s hj
  exact (World.ownsRow.lt h2 g hg).2
theorem tms_low {w w' : World} {B : Nat} {a : Option Addr} {n c : Nat} {l : List Tm} (h : Tms w a n c l) (hb : Below B w w') (hlt : ∀ ad, a = some ad → ad.block < B) : Tms w' a n c l :=
  ⟨h.size, h.row.size, h.row.fit, h.row.null, fun j v hv => by
    obtain ⟨b, o, e, hc⟩ := h.row.cell j v hv
    refine ⟨b, o, e, ?_⟩
    rw [hb.cell (p := ⟨b, o + j, none⟩) (show b < B from hlt ⟨b, o, none⟩ e)]
    exact hc⟩
theorem cell_low {w w' : World} {B : Nat} {a : Addr} {v : Value} (h : w.cell? a = some v) (hb : Below B w w') (hlt : a.block < B) : w'.cell? a = some v := by
  rw [hb.cell (p := a) hlt]
  exact h
theorem own_low {w w' : World} {B base g n c : Nat} {l : List Tm} (h : TOwn w base (.slice (some ⟨g, 0, none⟩) n c) l) (hb : Below B w w') (hlt : g < B) : TOwn w' base (.slice (some ⟨g, 0, none⟩) n c) l :=
  ownsRow_block h (fun k hk => by
    have e : g = k := by simpa [Value.ownBlock] using hk
    subst e
    exact hb.block g hlt)
theorem z9_cells {w : World} {base g n r : Nat} {M : List Tm} (h : TOwn w base (.slice (some ⟨g, 0, none⟩) (n + 9) (n + 9)) (M ++ z9)) (hM : M.length = n) (h0 : n ≤ r) (h1 : r < n + 9) : w.cell? ⟨g, r * 2, none⟩ = some (.int .i64 0) ∧ w.cell? ⟨g, r * 2 + 1, none⟩ = some (.int .i64 0) := by
  have hl : (M ++ z9).length = n + 9 := by rw [List.length_append, hM]; rfl
  have hz : (M ++ z9)[r]? = some ⟨0, 0⟩ := by
    rw [List.getElem?_append_right (by omega), hM]
    unfold z9
    rw [List.getElem?_replicate, if_pos (by omega)]
  unfold TOwn at h
  rw [hl] at h
  have c0 := World.ownsRow.cellAt h (r * 2) (by omega)
  have c1 := World.ownsRow.cellAt h (r * 2 + 1) (by omega)
  have f0 := fl_get tm2 0 hz (by decide)
  rw [Nat.add_zero] at f0
  rw [f0] at c0
  rw [fl_get tm2 1 hz (by decide)] at c1
  exact ⟨c0, c1⟩
theorem alloc_lt (w : World) (o : Obj) : w.heap.size < (w.alloc o).heap.size := by
  unfold World.alloc
  first | (simp only [Array.size_push]; omega) | simp
end Go.Proofs.YtdckpecalglnoaaDoor
