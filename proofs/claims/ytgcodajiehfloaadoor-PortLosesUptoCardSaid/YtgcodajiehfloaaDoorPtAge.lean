/-
  A frame goes by: the program's aged.
-/
import Derived.Test.YtgcodajiehfloaaDoorPtFits0
import Derived.Test.YtgcodajiehfloaaDoorPtSmall
namespace Go.Proofs.YtgcodajiehfloaaDoor
open Go.RowKit
set_option linter.unusedVariables false
set_option linter.unusedSimpArgs false

theorem Pq.far {w : World} {b b' o : Nat} {k s d r : Int} {x u : Value} {age : Int} (h : Pq w b k s d r x age) (h1 : b' ≠ b) (h2 : b' ≠ b + 1) : Pq (w.setCell ⟨b', o, none⟩ u) b k s d r x age :=
  ⟨by rw [World.cell?_setCell_other _ _ _ _ (by simp)]; exact h.c0, by rw [World.cell?_setCell_other _ _ _ _ (by simp)]; exact h.c1, by rw [World.cell?_setCell_other _ _ _ _ (by simp)]; exact h.c2, by rw [World.cell?_setCell_other _ _ _ _ (by simp)]; exact h.c3, by rw [World.cell?_setCell_other _ _ _ _ (by simp)]; exact h.q0, by rw [World.cell?_setCell_other _ _ _ _ (by simp)]; exact h.q1⟩
theorem Two.one {w : World} {b : Nat} {x y : Value} (h : Two w b x y) (v : Value) : Two (w.setCell ⟨b, 1, none⟩ v) b x v :=
  ⟨by rw [World.cell?_setCell_other _ _ _ _ (by simp)]; exact h.c0, World.cell?_setCell_same _ _ _ h.c1, by rw [World.frozen?_setCell]; exact h.f0, by rw [World.frozen?_setCell]; exact h.f1⟩
def agedV (k : Int) (n : Nat) (age : Int) : Int := if mage k n < age + 1 then mage k n else age + 1

set_option maxRecDepth 100000 in
set_option maxHeartbeats 4000000 in
theorem aged_any (k s d r age : Int) (a : Option Addr) (len cap : Nat) (l : List ByteArray) (w : World) (hs : Sts w a len cap l) (h1 : 0 ≤ age) (h2 : age ≤ 255) :
    Calls Tryd.prog 20 #[.agg #[.int .i64 k, .int .i64 s, .int .i64 d, .int .i64 r], .agg #[.slice a len cap, .int .i64 age]] w fun e w' => ∃ v, e = .returned (.agg #[v, .int .i64 (agedV k len age)]) ∧ SLk w' w.heap.size v l ∧ Below w.heap.size w w' := by
  have HS := hide hs
  have hl := hs.size
  have hm := hs.most
  clear hs
  have HM := hide (fun w2 => mostAge_any k s d r age a len cap w2 hm)
  have PQ := hide ((pq_alloc w k s d r (.slice a len cap) age).below ((Below.refl _ _).alloc (Nat.le_refl _) (.cells #[.slice none 0 0, .int .i64 0] 26)))
  have B0 := hide (chain (pq_below w k s d r (.slice a len cap) age) ((Below.refl _ _).alloc (Nat.le_refl _) (.cells #[.slice none 0 0, .int .i64 0] 26)))
  have t2 := two_alloc ((w.alloc (.cells #[.int .i64 k, .int .i64 s, .int .i64 d, .int .i64 r] 23)).alloc (.cells #[.slice a len cap, .int .i64 age] 26)) (.slice none 0 0) (.int .i64 0) 26
  rw [pq_size, show w.heap.size + 2 = w.heap.size + 1 + 1 from rfl] at t2
  have T2 := hide t2
  have hz : (((w.alloc (.cells #[.int .i64 k, .int .i64 s, .int .i64 d, .int .i64 r] 23)).alloc (.cells #[.slice a len cap, .int .i64 age] 26)).alloc (.cells #[.slice none 0 0, .int .i64 0] 26)).heap.size = w.heap.size + 3 := by simp
  clear t2
  go_enter Tryd.func20, Tryd.ntmps20
  go_wp2_with fail
  generalize ((w.alloc (.cells #[.int .i64 k, .int .i64 s, .int .i64 d, .int .i64 r] 23)).alloc (.cells #[.slice a len cap, .int .i64 age] 26)).alloc (.cells #[.slice none 0 0, .int .i64 0] 26) = W0 at *
  refine Calls.mono (copied_any a len cap l age W0 (HS.out.below B0.out)) ?_
  rintro e w1 ⟨v1, rfl, o1, b1⟩
  obtain ⟨a1, c1, rfl, _⟩ := o1.row
  rw [hl] at o1 ⊢
  have O1 := hide o1
  have P1 := hide (PQ.out.below b1)
  have T1 := hide (T2.out.below b1)
  have D1 := hide (chain B0.out b1)
  have hz1 : w.heap.size + 3 ≤ w1.heap.size := by rw [← hz]; exact b1.size
  clear o1 b1 PQ B0 T2
  have P2 := hide (P1.out.below ((Below.refl _ _).alloc (Nat.le_refl _) (.cells #[.slice a1 len c1, .int .i64 age] 26)))
  have T3 := hide (T1.out.below ((Below.refl _ _).alloc (Nat.le_refl _) (.cells #[.slice a1 len c1, .int .i64 age] 26)))
  have O2 := hide (O1.out.below ((Below.refl _ _).alloc (Nat.le_refl _) (.cells #[.slice a1 len c1, .int .i64 age] 26)))
  have D2 := hide (chain D1.out ((Below.refl _ _).alloc (Nat.le_refl _) (.cells #[.slice a1 len c1, .int .i64 age] 26)))
  have T4 := hide (two_alloc w1 (.slice a1 len c1) (.int .i64 age) 26)
  have hz2 : (w1.alloc (.cells #[.slice a1 len c1, .int .i64 age] 26)).heap.size = w1.heap.size + 1 := by simp
  have B12 := hide ((Below.refl w1.heap.size w1).alloc (Nat.le_refl _) (.cells #[.slice a1 len c1, .int .i64 age] 26))
  clear P1 T1 D1
  go_wp2_with fail
  generalize w1.alloc (.cells #[.slice a1 len c1, .int .i64 age] 26) = W2 at *
  have hw : IntKind.i64.wrap (age + 1) = age + 1 := by rw [IntKind.wrap_i64]; omega
  go_region_held3 (fun wz => wz.cell? ⟨w.heap.size, 0, none⟩ = some (.int .i64 k) ∧ wz.cell? ⟨w.heap.size, 1, none⟩ = some (.int .i64 s) ∧ wz.cell? ⟨w.heap.size, 2, none⟩ = some (.int .i64 d) ∧ wz.cell? ⟨w.heap.size, 3, none⟩ = some (.int .i64 r) ∧ wz.cell? ⟨w.heap.size + 1, 0, none⟩ = some (.slice a len cap) ∧ wz.cell? ⟨w.heap.size + 1, 1, none⟩ = some (.int .i64 age))
    (first | exact ⟨P2.out.c0, P2.out.c1, P2.out.c2, P2.out.c3, P2.out.q0, P2.out.q1⟩ | (have q := P2.out.below B5.out; exact ⟨q.c0, q.c1, q.c2, q.c3, q.q0, q.q1⟩) | (have q := (P2.out.below B5.out).far (b' := w1.heap.size) (o := 1) (u := .int .i64 (agedV k len age)) (by omega) (by omega); exact ⟨q.c0, q.c1, q.c2, q.c3, q.q0, q.q1⟩))
    ((go_at_call 40; refine (HM.out _).mono ?_; rintro e w5 ⟨rfl, b5⟩; have bb : Below W2.heap.size W2 w5 := ⟨b5.os, b5.tape, b5.output, b5.size, b5.block⟩; have B5 := hide bb; have q := T4.out.below bb; have qa := q.c1; have qb := q.f1; clear b5 bb q))
  have Q1 : Hid (Two (w5.setCell ⟨w1.heap.size, 1, none⟩ (.int .i64 (agedV k len age))) w1.heap.size (.slice a1 len c1) (.int .i64 (agedV k len age))) := (T4.out.below B5.out).one (.int .i64 (agedV k len age))
  have Q2 : Hid (Two (w5.setCell ⟨w1.heap.size, 1, none⟩ (.int .i64 (agedV k len age))) (w.heap.size + 1 + 1) (.slice none 0 0) (.int .i64 0)) := (T3.out.below B5.out).far (by omega)
  have HF : Hid (SLk (w5.setCell ⟨w1.heap.size, 1, none⟩ (.int .i64 (agedV k len age))) W0.heap.size (.slice a1 len c1) l) := O1.out.below ((chain B12.out B5.out).setCell (Nat.le_refl _) _)
  have BF : Hid (Below w.heap.size w (w5.setCell ⟨w1.heap.size, 1, none⟩ (.int .i64 (agedV k len age)))) := (chain D2.out B5.out).setCell (by show w.heap.size ≤ w1.heap.size; omega) _
  rw [show (if mage k len < age + 1 then mage k len else age + 1) = agedV k len age from rfl]
  generalize hA : agedV k len age = A at *
  rename_i hheld
  clear hheld qa qb P2 T3 O2 D2 T4 O1 B12 B5 HM hw
  generalize w5.setCell ⟨w1.heap.size, 1, none⟩ (.int .i64 A) = W6 at *
  have a0 := Q1.out.c0
  have a1' := Q1.out.c1
  have g0 := Q2.out.c0
  have g1 := Q2.out.c1
  have f0 := Q2.out.f0
  have f1 := Q2.out.f1
  go_wp2
  have Q3 := hide (Q2.out.set (.slice a1 len c1) (.int .i64 A))
  have HG := hide ((HF.out.setCell (p := ⟨w.heap.size + 1 + 1, 0, none⟩) (by show _ < W0.heap.size; rw [hz]; simp) (.slice a1 len c1)).setCell (p := ⟨w.heap.size + 1 + 1, 1, none⟩) (by show _ < W0.heap.size; rw [hz]; simp) (.int .i64 A))
  have BG := hide ((BF.out.setCell (p := ⟨w.heap.size + 1 + 1, 0, none⟩) (by show _ ≤ w.heap.size + 1 + 1; omega) (.slice a1 len c1)).setCell (p := ⟨w.heap.size + 1 + 1, 1, none⟩) (by show _ ≤ w.heap.size + 1 + 1; omega) (.int .i64 A))
  generalize (W6.setCell ⟨w.heap.size + 1 + 1, 0, none⟩ (.slice a1 len c1)).setCell ⟨w.heap.size + 1 + 1, 1, none⟩ (.int .i64 A) = W9 at *
  have q0 := Q3.out.c0
  have q1 := Q3.out.c1
  (try simp only [Exit.inBlock, Exit.then])
  refine bodyPost_ret (v := .agg #[.slice a1 len c1, .int .i64 A]) (by simp [results, Tryd.results20, go_sem, q0, q1]) rfl ?_
  exact ⟨_, by rw [hA], HG.out.weaken (by omega), BG.out⟩
end Go.Proofs.YtgcodajiehfloaaDoor
