/-
  The cursor of package wire: the bytes up to its bound.
-/
import Derived.Test.YtohoncgkekiihaaDoorCuNext
import Derived.Deep.RegionHeld3
namespace Go.Proofs.YtohoncgkekiihaaDoor
open Go.RowKit FerryCrc
set_option linter.unusedVariables false
set_option linter.unusedSimpArgs false

set_option maxRecDepth 100000 in
set_option maxHeartbeats 400000 in
theorem rest_any (c g len p bd : Nat) (L : List Nat) (w : World) (h : Cur w c g len p bd L) :
    Calls Tryd.prog 52 #[.pointer (some ⟨c, 0, none⟩)] w fun e w' => e = .returned (.slice (some ⟨w.heap.size, 0, none⟩) (bd - p) (bd - p)) ∧ Own w' w.heap.size (.slice (some ⟨w.heap.size, 0, none⟩) (bd - p) (bd - p)) (cut L p (bd - p)) ∧ Below w.heap.size w w' := by
  have c0 := h.c0
  have c1 := h.c1
  have c2 := h.c2
  have h1 := h.le
  have h2 := h.most
  have h3 := h.bts.most
  by_cases hp : p < len
  · have HD : Hid (Bts w (some ⟨g, p, none⟩) (bd - p) (len - p) (cut L p (bd - p))) := by
      have := (h.bts.drop p (by omega)).take (bd - p) (by omega)
      rw [Nat.zero_add] at this
      exact this
    generalize cut L p (bd - p) = l at *
    obtain ⟨n, hn⟩ : ∃ n, bd - p = n := ⟨_, rfl⟩
    rw [hn] at HD ⊢
    have hle : p ≤ bd := h1
    have hcap : ¬ len = p := by omega
    have hcap2 : ¬ p = len := by omega
    clear h h1
    go_enter Tryd.func52, Tryd.ntmps52
    go_wp2
    go_region_held3 (fun wz => wz.cell? ⟨c, 0, none⟩ = some (.slice (some ⟨g, 0, none⟩) len len) ∧ wz.cell? ⟨c, 1, none⟩ = some (.int .i64 (p : Int)) ∧ wz.cell? ⟨c, 2, none⟩ = some (.int .i64 (bd : Int))) (first | exact ⟨c0, c1, c2⟩ | exact hold2) (first | (go_at_call 77; refine (wfresh_any _ _ _ _ _ (HD.out.below (Below.refl _ _).drew)).mono ?_; rintro e w2 ⟨rfl, ho, hb2⟩; have hold2 : w2.cell? ⟨c, 0, none⟩ = some (.slice (some ⟨g, 0, none⟩) len len) ∧ w2.cell? ⟨c, 1, none⟩ = some (.int .i64 (p : Int)) ∧ w2.cell? ⟨c, 2, none⟩ = some (.int .i64 (bd : Int)) := ⟨cell_below (w := w.drew) c0 hb2, cell_below (w := w.drew) c1 hb2, cell_below (w := w.drew) c2 hb2⟩; have HO := hide ho; have HB2 := hide hb2; clear ho hb2))
    go_wp2
    go_ret
    exact ⟨rfl, HO.out, (Below.refl _ _).drew.trans HB2.out⟩
  · obtain rfl : p = len := by omega
    obtain rfl : bd = p := by omega
    have HD : Hid (∀ (a : Option Addr) (wx : World), Bts wx a 0 0 (cut L bd (bd - bd))) := by
      intro a wx
      rw [Nat.sub_self]
      refine ⟨by simp [cut], by decide, by decide, fun c hc => by simp [cut] at hc, fun _ => ⟨rfl, rfl⟩, fun k hk => by omega⟩
    generalize cut L bd (bd - bd) = l at *
    rw [Nat.sub_self]
    clear h h1 h2 hp
    go_enter Tryd.func52, Tryd.ntmps52
    go_wp2
    go_region_held3 (fun wz => wz.cell? ⟨c, 0, none⟩ = some (.slice (some ⟨g, 0, none⟩) bd bd) ∧ wz.cell? ⟨c, 1, none⟩ = some (.int .i64 (bd : Int)) ∧ wz.cell? ⟨c, 2, none⟩ = some (.int .i64 (bd : Int))) (first | exact ⟨c0, c1, c2⟩ | exact hold2) (first | (go_at_call 77; refine (wfresh_any _ _ _ _ _ (HD.out _ _)).mono ?_; rintro e w2 ⟨rfl, ho, hb2⟩; have hold2 : w2.cell? ⟨c, 0, none⟩ = some (.slice (some ⟨g, 0, none⟩) bd bd) ∧ w2.cell? ⟨c, 1, none⟩ = some (.int .i64 (bd : Int)) ∧ w2.cell? ⟨c, 2, none⟩ = some (.int .i64 (bd : Int)) := ⟨cell_below (w := w.drew) c0 hb2, cell_below (w := w.drew) c1 hb2, cell_below (w := w.drew) c2 hb2⟩; have HO := hide ho; have HB2 := hide hb2; clear ho hb2))
    go_wp2
    go_ret
    exact ⟨rfl, HO.out, (Below.refl _ _).drew.trans HB2.out⟩
end Go.Proofs.YtohoncgkekiihaaDoor
