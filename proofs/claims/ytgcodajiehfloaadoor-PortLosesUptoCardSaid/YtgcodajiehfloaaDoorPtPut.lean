/-
  A message comes; a process writes one: the program's Put and Write.
-/
import Derived.Test.YtgcodajiehfloaaDoorPtAdd
namespace Go.Proofs.YtgcodajiehfloaaDoor
open Go.RowKit
set_option linter.unusedVariables false
set_option linter.unusedSimpArgs false

/-- The number of Put's (true) and Write's (false) error; the list behind it. -/
def movErr (b : Bool) (k s d r : Int) (l : List ByteArray) (age : Int) (D : ByteArray) : Nat := if chkErr k s d r l age = 0 then (if kin k = b then addErr k s d l D else 7) else chkErr k s d r l age
def movL (b : Bool) (k s d r : Int) (l : List ByteArray) (age : Int) (D : ByteArray) : List ByteArray := if chkErr k s d r l age = 0 ∧ kin k = b then addL k s d l D else []
theorem addErr_le (k s d : Int) (l : List ByteArray) (D : ByteArray) : addErr k s d l D ≤ 20 := by
  unfold addErr
  repeat' split
  all_goals omega

set_option maxRecDepth 100000 in
set_option maxHeartbeats 4000000 in
theorem put_any {w : World} {E : Nat → Addr} (he : Errs w E) (k s d r age : Int) (a : Option Addr) (len cap : Nat) (l : List ByteArray) (D : ByteArray) (hs : Sts w a len cap l) (hD : D.size ≤ 9223372036854775807) :
    Calls Tryd.prog 16 #[.agg #[.int .i64 k, .int .i64 s, .int .i64 d, .int .i64 r], .agg #[.slice a len cap, .int .i64 age], .string D] w fun e w' => ∃ x v, e = .returned (.tuple #[.agg #[x, .int .i64 0], v]) ∧ Bare E v (movErr true k s d r l age D) ∧ SLk w' w.heap.size x (movL true k s d r l age D) ∧ Below w.heap.size w w' := by
  have HS := hide hs
  have HE := hide he
  have hl := hs.size
  have hm := hs.most
  have PQ := hide (pqr_pq w k s d r (.slice a len cap) age (.slice none 0 0) (.int .i64 0))
  have B0 := hide (pqr_below w k s d r (.slice a len cap) age (.slice none 0 0) (.int .i64 0))
  have T0 := hide (pqr_two w k s d r (.slice a len cap) age (.slice none 0 0) (.int .i64 0))
  have hz := pqr_size w k s d r (.slice a len cap) age (.slice none 0 0) (.int .i64 0)
  clear hs he
  go_enter Tryd.func16, Tryd.ntmps16
  go_wp2_with fail
  generalize ((w.alloc (.cells #[.int .i64 k, .int .i64 s, .int .i64 d, .int .i64 r] 23)).alloc (.cells #[.slice a len cap, .int .i64 age] 26)).alloc (.cells #[.slice none 0 0, .int .i64 0] 26) = W0 at *
  refine Calls.mono (check_any (HE.out.below B0.out) k s d r age a len cap l (HS.out.below B0.out)) ?_
  rintro e w1 ⟨v, rfl, hv, b1⟩
  have D1 := hide (chain B0.out b1)
  have P1 := hide (PQ.out.below b1)
  have T1 := hide (T0.out.below b1)
  have hz1 : W0.heap.size ≤ w1.heap.size := b1.size
  clear b1 PQ B0 T0
  rcases hv with ⟨rfl, h0⟩ | ⟨h1, h2, rfl⟩
  · have c0 := P1.out.c0
    have c1 := P1.out.c1
    have c2 := P1.out.c2
    have c3 := P1.out.c3
    have q0 := P1.out.q0
    have q1 := P1.out.q1
    go_wp2_with fail
    refine Calls.mono (isIn_any k s d r w1) ?_
    rintro e w2 ⟨rfl, b2⟩
    have D2 := hide (chain D1.out b2)
    have P2 := hide (P1.out.below b2)
    have T2 := hide (T1.out.below b2)
    have hz2 : w1.heap.size ≤ w2.heap.size := b2.size
    clear b2 c0 c1 c2 c3 q0 q1 D1 P1 T1
    cases hk : kin k
    · have HA : Hid (movErr true k s d r l age D = 7) := by unfold Hid movErr; rw [if_pos h0, if_neg (by rw [hk]; decide)]
      have HL : Hid (movL true k s d r l age D = []) := by unfold Hid movL; rw [if_neg (by rw [hk]; simp)]
      go_wp2_with fail
      have g0 := T2.out.c0
      have g1' := T2.out.c1
      have f0 := T2.out.f0
      have f1 := T2.out.f1
      have vv := (HE.out.below D2.out).v7
      go_region_held3 (fun wz => wz.cell? ⟨0, 0, none⟩ = some (sent (E 7))) (first | exact vv | exact (HE.out.below ((D2.out.setCell (p := ⟨w.heap.size + 1 + 1, 0, none⟩) (by show _ ≤ w.heap.size + 1 + 1; omega) (.slice none 0 0)).setCell (p := ⟨w.heap.size + 1 + 1, 1, none⟩) (by show _ ≤ w.heap.size + 1 + 1; omega) (.int .i64 0))).v7) (fail)
      go_wp2
      have FP := hide (fin_port (u := .int .i64 0) T2.out (slk_nil w2 W0.heap.size) D2.out (by omega) (by omega))
      generalize (w2.setCell ⟨w.heap.size + 1 + 1, 0, none⟩ (.slice none 0 0)).setCell ⟨w.heap.size + 1 + 1, 1, none⟩ (.int .i64 0) = W9 at *
      have e0 := FP.out.1.c0
      have e1 := FP.out.1.c1
      (try simp only [Exit.inBlock, Exit.then])
      refine bodyPost_ret (v := .tuple #[.agg #[.slice none 0 0, .int .i64 0], sent (E 7)]) (by simp [results, Tryd.results16, go_sem, e0, e1]) rfl ?_
      exact ⟨_, _, rfl, bare_is 7 HA.out (by decide) (by decide), by rw [HL.out]; exact (FP.out.2.1.below ((Below.refl _ _).drew)).weaken (by omega), chain FP.out.2.2 ((Below.refl _ _).drew)⟩
    · have HA : Hid (movErr true k s d r l age D = addErr k s d l D) := by unfold Hid movErr; rw [if_pos h0, if_pos hk]
      have HL : Hid (movL true k s d r l age D = addL k s d l D) := by unfold Hid movL; rw [if_pos ⟨h0, hk⟩]
      have c0 := P2.out.c0
      have c1 := P2.out.c1
      have c2 := P2.out.c2
      have c3 := P2.out.c3
      have q0 := P2.out.q0
      have q1 := P2.out.q1
      go_wp2_with fail
      refine Calls.mono (add_any (HE.out.below D2.out) k s d r age a len cap l D (HS.out.below D2.out) hD) ?_
      rintro e w3 ⟨x3, v3, rfl, hv3, o3, b3⟩
      obtain ⟨a3, c3', rfl, _⟩ := o3.row
      have O3 := hide o3
      have D3 := hide (chain D2.out b3)
      have T3 := hide (T2.out.below b3)
      have g0 := T3.out.c0
      have g1 := T3.out.c1
      have f0 := T3.out.f0
      have f1 := T3.out.f1
      have HV := hide hv3
      clear o3 b3 D2 T2 P2 c0 c1 c2 c3 q0 q1 hv3
      go_wp2
      have FP := hide (fin_port (u := .int .i64 0) T3.out O3.out D3.out (by omega) (by omega))
      generalize (w3.setCell ⟨w.heap.size + 1 + 1, 0, none⟩ (.slice a3 (addL k s d l D).length c3')).setCell ⟨w.heap.size + 1 + 1, 1, none⟩ (.int .i64 0) = W9 at *
      have e0 := FP.out.1.c0
      have e1 := FP.out.1.c1
      (try simp only [Exit.inBlock, Exit.then])
      refine bodyPost_ret (v := .tuple #[.agg #[.slice a3 (addL k s d l D).length c3', .int .i64 0], v3]) (by simp [results, Tryd.results16, go_sem, e0, e1]) rfl ?_
      exact ⟨_, _, rfl, by rw [HA.out]; exact HV.out, by rw [HL.out]; exact FP.out.2.1.weaken (by omega), FP.out.2.2⟩
  · have HA : Hid (movErr true k s d r l age D = chkErr k s d r l age) := by unfold Hid movErr; rw [if_neg (by omega)]
    have HL : Hid (movL true k s d r l age D = []) := by unfold Hid movL; rw [if_neg (by omega)]
    have g0 := T1.out.c0
    have g1 := T1.out.c1
    have f0 := T1.out.f0
    have f1 := T1.out.f1
    unfold sent
    go_wp2
    have FP := hide (fin_port (u := .int .i64 0) T1.out (slk_nil w1 W0.heap.size) D1.out (by omega) (by omega))
    generalize (w1.setCell ⟨w.heap.size + 1 + 1, 0, none⟩ (.slice none 0 0)).setCell ⟨w.heap.size + 1 + 1, 1, none⟩ (.int .i64 0) = W9 at *
    have e0 := FP.out.1.c0
    have e1 := FP.out.1.c1
    (try simp only [Exit.inBlock, Exit.then])
    refine bodyPost_ret (v := .tuple #[.agg #[.slice none 0 0, .int .i64 0], sent (E (chkErr k s d r l age))]) (by simp [results, Tryd.results16, go_sem, e0, e1, sent]) rfl ?_
    exact ⟨_, _, rfl, by rw [HA.out]; exact bare_sent E _ h1 h2, by rw [HL.out]; exact FP.out.2.1.weaken (by omega), FP.out.2.2⟩

end Go.Proofs.YtgcodajiehfloaaDoor
