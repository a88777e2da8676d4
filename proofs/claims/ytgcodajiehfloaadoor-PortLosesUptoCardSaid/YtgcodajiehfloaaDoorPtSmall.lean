/-
  Small functions of ports: which kinds are ports in, which queues, on both sides.
-/
import Derived.Test.YtgcodajiehfloaaDoorPtBase
namespace Go.Proofs.YtgcodajiehfloaaDoor
open Go.RowKit
set_option linter.unusedVariables false
set_option linter.unusedSimpArgs false

def kin (k : Int) : Bool := k == 1 || k == 3
def kque (k : Int) : Bool := k == 3 || k == 4
set_option maxRecDepth 100000 in
theorem isIn_any (k s d r : Int) (w : World) :
    Calls Tryd.prog 28 #[.agg #[.int .i64 k, .int .i64 s, .int .i64 d, .int .i64 r]] w fun e w' => e = .returned (.bool (kin k)) ∧ Below w.heap.size w w' := by
  go_enter Tryd.func28, Tryd.ntmps28
  go_wp2
  all_goals go_ret
  all_goals refine ⟨ret_bool ?_, (Below.refl _ _).alloc (Nat.le_refl _) _⟩
  all_goals (unfold kin; simp_all; done)
set_option maxRecDepth 100000 in
theorem isQueue_any (k s d r : Int) (w : World) :
    Calls Tryd.prog 34 #[.agg #[.int .i64 k, .int .i64 s, .int .i64 d, .int .i64 r]] w fun e w' => e = .returned (.bool (kque k)) ∧ Below w.heap.size w w' := by
  go_enter Tryd.func34, Tryd.ntmps34
  go_wp2
  all_goals go_ret
  all_goals refine ⟨ret_bool ?_, (Below.refl _ _).alloc (Nat.le_refl _) _⟩
  all_goals (unfold kque; simp_all; done)
set_option maxRecDepth 100000 in
theorem refIsIn_any (k s d r : Int) (w : World) :
    Calls Tryd.prog 30 #[.agg #[.int .i64 k, .int .i64 s, .int .i64 d, .int .i64 r]] w fun e w' => e = .returned (.bool (kin k)) ∧ Below w.heap.size w w' := by
  go_enter Tryd.func30, Tryd.ntmps30
  go_wp2
  all_goals go_ret
  all_goals refine ⟨ret_bool ?_, (Below.refl _ _).alloc (Nat.le_refl _) _⟩
  all_goals (unfold kin; simp_all; done)

set_option maxRecDepth 100000 in
/-- The program's copied. -/
theorem copied_any (a : Option Addr) (len cap : Nat) (l : List ByteArray) (age : Int) (w : World) (hs : Sts w a len cap l) :
    Calls Tryd.prog 29 #[.agg #[.slice a len cap, .int .i64 age]] w fun e w' => ∃ v, e = .returned (.agg #[v, .int .i64 age]) ∧ SLk w' w.heap.size v l ∧ Below w.heap.size w w' := by
  have HS := hide hs
  have hl := hs.size
  have hm := hs.most
  clear hs
  go_enter Tryd.func29, Tryd.ntmps29
  have t0 := (two_alloc w (.slice a len cap) (.int .i64 age) 26).below ((Below.refl _ _).alloc (Nat.le_refl _) (.cells #[.slice none 0 0, .int .i64 0] 26))
  have t1 := two_alloc (w.alloc (.cells #[.slice a len cap, .int .i64 age] 26)) (.slice none 0 0) (.int .i64 0) 26
  have D0 := hide (chain ((Below.refl _ _).alloc (Nat.le_refl _) (.cells #[.slice a len cap, .int .i64 age] 26)) ((Below.refl (w.alloc (.cells #[.slice a len cap, .int .i64 age] 26)).heap.size _).alloc (Nat.le_refl _) (.cells #[.slice none 0 0, .int .i64 0] 26)))
  have hsz : ((w.alloc (.cells #[.slice a len cap, .int .i64 age] 26)).alloc (.cells #[.slice none 0 0, .int .i64 0] 26)).heap.size = w.heap.size + 2 := by simp
  have hs1 : (w.alloc (.cells #[.slice a len cap, .int .i64 age] 26)).heap.size = w.heap.size + 1 := by simp
  rw [hs1] at t1
  have T0 := hide t0
  have T1 := hide t1
  have HK := hide (clone_any a len cap l _ (HS.out.below D0.out))
  clear t0 t1
  go_wp2_with fail
  clear hs1
  generalize (w.alloc (.cells #[.slice a len cap, .int .i64 age] 26)).alloc (.cells #[.slice none 0 0, .int .i64 0] 26) = W0 at *
  go_region_held3 (fun wz => wz.cell? ⟨w.heap.size, 0, none⟩ = some (.slice a len cap) ∧ wz.cell? ⟨w.heap.size, 1, none⟩ = some (.int .i64 age)) (first | exact ⟨T0.out.c0, T0.out.c1⟩ | (have q0 := T0.out.below B1.out; exact ⟨q0.c0, q0.c1⟩) | (have q0 := ((T0.out.below B1.out).far (b' := w.heap.size + 1) (o := 0) (u := .slice a1 len c1) (by omega)).far (b' := w.heap.size + 1) (o := 1) (u := .int .i64 age) (by omega); exact ⟨q0.c0, q0.c1⟩))
    ((go_at_call 35; refine (clone_any a len cap l W0.drew (HS.out.below (chain D0.out ((Below.refl _ _).drew)))).mono ?_; rintro e w1 ⟨v1, rfl, h1, b1⟩; have B1 := hide (undrew b1); obtain ⟨a1, c1, rfl, _⟩ := h1.row; rw [hl] at h1 ⊢; have H1 := hide h1; have q := T1.out.below B1.out; have qa := q.c0; have qb := q.c1; have qc := q.f0; have qd := q.f1; clear b1 h1 q))
  have Q1 := hide ((T1.out.below B1.out).set (.slice a1 len c1) (.int .i64 age))
  have HF := hide ((H1.out.setCell (p := ⟨w.heap.size + 1, 0, none⟩) (by show _ < W0.heap.size; rw [hsz]; simp) (.slice a1 len c1)).setCell (p := ⟨w.heap.size + 1, 1, none⟩) (by show _ < W0.heap.size; rw [hsz]; simp) (.int .i64 age))
  have BF := hide (((chain D0.out B1.out).setCell (p := ⟨w.heap.size + 1, 0, none⟩) (by simp) (.slice a1 len c1)).setCell (p := ⟨w.heap.size + 1, 1, none⟩) (by simp) (.int .i64 age))
  clear T0 T1 D0 B1 H1 HK
  generalize (w1.setCell ⟨w.heap.size + 1, 0, none⟩ (.slice a1 len c1)).setCell ⟨w.heap.size + 1, 1, none⟩ (.int .i64 age) = W9 at *
  have q0 := Q1.out.c0
  have q1 := Q1.out.c1
  clear Q1
  go_wp2
  (try simp only [Exit.inBlock, Exit.then])
  refine bodyPost_ret (v := .agg #[.slice a1 len c1, .int .i64 age]) (by simp [results, Tryd.results29, go_sem, q0, q1]) rfl ?_
  exact ⟨_, rfl, HF.out.weaken (by show _ ≤ W0.heap.size; rw [hsz]; omega), BF.out⟩
end Go.Proofs.YtgcodajiehfloaaDoor
