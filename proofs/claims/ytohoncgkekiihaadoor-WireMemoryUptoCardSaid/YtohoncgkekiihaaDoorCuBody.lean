/-
  The cursor of package wire: a body.
-/
import Derived.Test.YtohoncgkekiihaaDoorCuNext
namespace Go.Proofs.YtohoncgkekiihaaDoor
open Go.RowKit FerryCrc
set_option linter.unusedVariables false
set_option linter.unusedSimpArgs false

set_option maxRecDepth 100000 in
set_option maxHeartbeats 1000000 in
theorem body_ok (c g len p bd : Nat) (L : List Nat) (w : World) (h : Cur w c g len p bd L) (hs : p + 3 ≤ bd) (hn : nbe (cut L (p + 1) 2) ≤ bd - (p + 3)) :
    Calls Tryd.prog 79 #[.pointer (some ⟨c, 0, none⟩)] w fun e w' => e = .returned (.tuple #[.pointer (some ⟨w.heap.size, 0, none⟩), .nilIface]) ∧ Cur w' c g len (p + 3 + nbe (cut L (p + 1) 2)) bd L ∧ Cur w' w.heap.size g len (p + 3) (p + 3 + nbe (cut L (p + 1) 2)) L ∧ Frm (fun k => k = c) w w' := by
  have c1 := h.c1
  have c2 := h.c2
  have c0 := h.c0
  have f1 := h.f1
  have h3 := h.bts.most
  have h4 := h.most
  have HP := hide (peek_any c g len p bd L (p + 1) 2 w h (by decide) (by decide) (by omega))
  have hq := cut_lt h.bts.small (p + 1) 2
  have H := hide h
  generalize nbe (cut L (p + 1) 2) = q at *
  have e1 : ((p + 1 : Nat) : Int) = (p : Int) + 1 := by omega
  rw [e1] at HP
  have e2 : ¬ (bd : Int) - ((p : Int) + 3) < (q : Int) := by omega
  have e3 : ((p + 3 : Nat) : Int) = (p : Int) + 3 := by omega
  have e4 : ((p + 3 + q : Nat) : Int) = (p : Int) + 3 + (q : Int) := by omega
  clear h
  go_enter Tryd.func79, Tryd.ntmps79
  go_wp2_with fail
  refine Calls.mono HP.out ?_
  rintro e w1 ⟨rfl, rfl⟩
  go_wp2
  have HM := hide (H.out.move (q := p + 3 + q) (by omega))
  rw [e4] at HM
  have HF := hide (frm_setCell w ⟨c, 1, none⟩ (.int .i64 ((p : Int) + 3 + (q : Int))))
  have HZ : Hid ((w.setCell ⟨c, 1, none⟩ (.int .i64 ((p : Int) + 3 + (q : Int)))).heap.size = w.heap.size) := by unfold Hid; simp [World.setCell]
  have E3 := hide e3
  have E4 := hide e4
  have hcl := H.out.lt
  clear c0 c1 c2 f1 e3 e4
  generalize w.setCell ⟨c, 1, none⟩ (.int .i64 ((p : Int) + 3 + (q : Int))) = W at *
  have c0 := HM.out.c0
  have c1 := HM.out.c1
  rw [E4.out] at c1
  go_region
  all_goals go_wp2
  all_goals go_ret2
  all_goals
    have hne : c ≠ w.heap.size := by omega
    have HB : Below W.heap.size W ((W.alloc (.cells #[.slice (some ⟨g, 0, none⟩) len len, .int .i64 ((p : Int) + 3), .int .i64 ((p : Int) + 3 + (q : Int))] 114)).drew) := ((Below.refl _ _).alloc (Nat.le_refl _) _).drew
    refine ⟨by rw [← HZ.out]; rfl, HM.out.below HB, ?_, HF.out.trans (Frm.ofBelow HB) (fun j _ t => t)⟩
    rw [← HZ.out]
    refine ⟨?_, ?_, ?_, World.frozen?_alloc_new _ _ _ _, HM.out.bts.below HB, ?_, by omega, by omega⟩
    · exact (World.cell?_alloc_at _ _ _ _ rfl).trans rfl
    · rw [E3.out]; exact (World.cell?_alloc_at _ _ _ _ rfl).trans rfl
    · rw [E4.out]; exact (World.cell?_alloc_at _ _ _ _ rfl).trans rfl
    · rw [HZ.out]
      obtain ⟨b', off', hbo, _, _, hcc⟩ := H.out.bts.cell 0 (by omega)
      simp only [Option.some.injEq, Addr.mk.injEq, and_true] at hbo
      obtain ⟨rfl, rfl⟩ := hbo
      have hlt := block_lt_of_cell hcc
      simp only at hlt
      omega
end Go.Proofs.YtohoncgkekiihaaDoor
