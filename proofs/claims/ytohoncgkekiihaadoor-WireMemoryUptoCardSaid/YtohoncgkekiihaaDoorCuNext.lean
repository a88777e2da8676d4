/-
  The cursor of package wire: the next record.
-/
import Derived.Test.YtohoncgkekiihaaDoorCuBase
import Derived.Test.YtohoncgkekiihaaDoorErrCode
import Derived.BigRegion
import Derived.Deep.RegionWith
namespace Go.Proofs.YtohoncgkekiihaaDoor
open Go.RowKit FerryCrc
set_option linter.unusedVariables false
set_option linter.unusedSimpArgs false

theorem AtErr.below {w w' : World} {base : Nat} {v : Value} {a : Addr} {p : Int} (h : AtErr w base v a p) (hb : Below w.heap.size w w') : AtErr w' base v a p := by
  obtain ⟨b, h1, h2, h3, h4⟩ := h
  exact ⟨b, h1, h2, cell_below h3 hb, cell_below h4 hb⟩
theorem AtErr.wk {w : World} {base base' : Nat} {v : Value} {a : Addr} {p : Int} (h : AtErr w base v a p) (hb : base' ≤ base) : AtErr w base' v a p := by
  obtain ⟨b, h1, h2, h3, h4⟩ := h
  exact ⟨b, Nat.le_trans hb h1, h2, h3, h4⟩
theorem cell_low {L : List Nat} {w : World} {a : Option Addr} {len cap : Nat} (h : Bts w a len cap L) (k : Nat) (hk : k < len) : ∃ x, L[k]? = some x ∧ x < 256 := by
  obtain ⟨_, _, _, c, h1, _⟩ := h.cell k hk
  exact ⟨c, h1, h.small c (List.mem_of_getElem? h1)⟩
theorem cut_one {L : List Nat} {p x : Nat} (h : L[p]? = some x) : nbe (cut L p 1) = x := by
  unfold cut
  have : (L.drop p).take 1 = [x] := by
    rw [List.take_one, List.head?_drop, h]
    rfl
  rw [this]
  simp [nbe]
theorem cut_lt {L : List Nat} (hs : ∀ c ∈ L, c < 256) (p n : Nat) : nbe (cut L p n) < 256 ^ n := by
  have h := nbe_lt (cut L p n) (fun c hc => hs c (List.mem_of_mem_drop (List.mem_of_mem_take hc)))
  exact Nat.lt_of_lt_of_le h (Nat.pow_le_pow_right (by decide) (by unfold cut; rw [List.length_take]; exact Nat.min_le_left _ _))

set_option maxRecDepth 100000 in
theorem tag_short (c g len p bd : Nat) (L : List Nat) (a1 : Addr) (w : World) (h : Cur w c g len p bd L) (v1 : w.cell? ⟨1, 0, none⟩ = some (sent a1)) (hs : bd - p < 3) :
    Calls Tryd.prog 78 #[.pointer (some ⟨c, 0, none⟩)] w fun e w' => ∃ ev, e = .returned (.tuple #[.int .i64 0, ev]) ∧ AtErr w' w.heap.size ev a1 (p : Int) ∧ Below w.heap.size w w' := by
  have HC := hide (left_any c g len p bd L w h)
  have H := hide h
  have V := hide v1
  have hlt : ((bd - p : Nat) : Int) < 3 := by omega
  generalize bd - p = q at *
  clear h v1
  go_enter Tryd.func78, Tryd.ntmps78
  go_wp2_with fail
  refine Calls.mono HC.out ?_
  rintro e w1 ⟨rfl, hb⟩
  have c1 := (H.out.below hb).c1
  have v1 := cell_below V.out hb
  have HB := hide hb
  clear hb
  go_wp2
  go_region_with (go_at_call 54; refine (placed_any a1 (p : Int) _).mono ?_; rintro e w2 ⟨ev, rfl, ha, hb2⟩; have HA := hide ha; have HB2 := hide hb2; clear ha hb2)
  all_goals go_wp2
  all_goals (go_ret2; exact ⟨ev, rfl, HA.out.wk HB.out.size, HB.out.trans ((Below.refl _ _).drew.trans (HB2.out.mono HB.out.size))⟩)

set_option maxRecDepth 100000 in
theorem tag_zero (c g len p bd : Nat) (L : List Nat) (a3 : Addr) (w : World) (h : Cur w c g len p bd L) (v3 : w.cell? ⟨3, 0, none⟩ = some (sent a3)) (hs : 3 ≤ bd - p) (hz : L[p]? = some 0) :
    Calls Tryd.prog 78 #[.pointer (some ⟨c, 0, none⟩)] w fun e w' => ∃ ev, e = .returned (.tuple #[.int .i64 0, ev]) ∧ AtErr w' w.heap.size ev a3 (p : Int) ∧ Below w.heap.size w w' := by
  have HC := hide (left_any c g len p bd L w h)
  have H := hide h
  have V := hide v3
  have hlt : ¬ ((bd - p : Nat) : Int) < 3 := by omega
  have hlt2 : ¬ (bd - p) < 3 := by omega
  have HP := hide (fun w2 (h2 : Cur w2 c g len p bd L) => peek_any c g len p bd L p 1 w2 h2 (by decide) (by decide) (by have := h.most; omega))
  rw [cut_one hz] at HP
  generalize bd - p = q at *
  clear h v3 hz
  go_enter Tryd.func78, Tryd.ntmps78
  go_wp2_with fail
  refine Calls.mono HC.out ?_
  rintro e w1 ⟨rfl, hb⟩
  have H1 := hide (H.out.below hb)
  have c1 := H1.out.c1
  have v3 := cell_below V.out hb
  have HB := hide hb
  clear hb
  go_wp2_with fail
  refine Calls.mono (HP.out w1 H1.out) ?_
  rintro e w2 ⟨rfl, rfl⟩
  go_wp2
  go_region_with (go_at_call 54; refine (placed_any a3 (p : Int) _).mono ?_; rintro e w2 ⟨ev, rfl, ha, hb2⟩; have HA := hide ha; have HB2 := hide hb2; clear ha hb2)
  all_goals go_wp2
  all_goals (go_ret2; exact ⟨ev, rfl, HA.out.wk HB.out.size, HB.out.trans ((Below.refl _ _).drew.trans (HB2.out.mono HB.out.size))⟩)

set_option maxRecDepth 100000 in
theorem tag_ok (c g len p bd : Nat) (L : List Nat) (t : Nat) (w : World) (h : Cur w c g len p bd L) (hs : 3 ≤ bd - p) (hz : L[p]? = some t) (ht : t ≠ 0) :
    Calls Tryd.prog 78 #[.pointer (some ⟨c, 0, none⟩)] w fun e w' => e = .returned (.tuple #[.int .i64 (t : Int), .nilIface]) ∧ Below w.heap.size w w' := by
  have HC := hide (left_any c g len p bd L w h)
  have H := hide h
  have hlt : ¬ ((bd - p : Nat) : Int) < 3 := by omega
  have hlt2 : ¬ (bd - p) < 3 := by omega
  have ht2 : ((t : Int) == 0) = false := by simp; exact ht
  have HP := hide (fun w2 (h2 : Cur w2 c g len p bd L) => peek_any c g len p bd L p 1 w2 h2 (by decide) (by decide) (by have := h.most; omega))
  rw [cut_one hz] at HP
  generalize bd - p = q at *
  clear h hz
  go_enter Tryd.func78, Tryd.ntmps78
  go_wp2_with fail
  refine Calls.mono HC.out ?_
  rintro e w1 ⟨rfl, hb⟩
  have H1 := hide (H.out.below hb)
  have c1 := H1.out.c1
  have HB := hide hb
  clear hb
  go_wp2_with fail
  refine Calls.mono (HP.out w1 H1.out) ?_
  rintro e w2 ⟨rfl, rfl⟩
  go_wp2
  go_ret2
  exact ⟨rfl, HB.out⟩
end Go.Proofs.YtohoncgkekiihaaDoor
