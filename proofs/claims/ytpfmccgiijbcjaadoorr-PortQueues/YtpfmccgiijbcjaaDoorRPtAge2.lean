/-
  A frame goes by: the program's Age.
-/
import Derived.Test.YtpfmccgiijbcjaaDoorRPtCheck
import Derived.Test.YtpfmccgiijbcjaaDoorRPtAge
namespace Go.Proofs.YtpfmccgiijbcjaaDoorR
open Go.RowKit
set_option linter.unusedVariables false
set_option linter.unusedSimpArgs false

theorem chk0 {k s d r : Int} {l : List ByteArray} {age : Int} (h : chkErr k s d r l age = 0) : planErr k s d r = 0 ∧ fitB k s d l age = true := by
  unfold chkErr at h
  by_cases h1 : planErr k s d r = 0
  · rw [if_pos h1] at h
    by_cases h2 : fitB k s d l age = true
    · exact ⟨h1, h2⟩
    · rw [if_neg h2] at h
      omega
  · rw [if_neg h1] at h
    omega
theorem chk0_age {k s d r : Int} {l : List ByteArray} {age : Int} (h : chkErr k s d r l age = 0) : 0 ≤ age ∧ age ≤ 255 := by
  have h2 := (chk0 h).2
  unfold fitB at h2
  simp only [Bool.and_eq_true, decide_eq_true_eq] at h2
  have := ma_is k l.length
  omega
/-- Blocks of a function with a plan, a port and a port to answer. -/
theorem pqr_two (w : World) (k s d r : Int) (x : Value) (age : Int) (y z : Value) :
    Two (((w.alloc (.cells #[.int .i64 k, .int .i64 s, .int .i64 d, .int .i64 r] 23)).alloc (.cells #[x, .int .i64 age] 26)).alloc (.cells #[y, z] 26)) (w.heap.size + 1 + 1) y z := by
  have t2 := two_alloc ((w.alloc (.cells #[.int .i64 k, .int .i64 s, .int .i64 d, .int .i64 r] 23)).alloc (.cells #[x, .int .i64 age] 26)) y z 26
  rw [pq_size, show w.heap.size + 2 = w.heap.size + 1 + 1 from rfl] at t2
  exact t2
theorem pqr_size (w : World) (k s d r : Int) (x : Value) (age : Int) (y z : Value) :
    (((w.alloc (.cells #[.int .i64 k, .int .i64 s, .int .i64 d, .int .i64 r] 23)).alloc (.cells #[x, .int .i64 age] 26)).alloc (.cells #[y, z] 26)).heap.size = w.heap.size + 3 := by simp
theorem pqr_pq (w : World) (k s d r : Int) (x : Value) (age : Int) (y z : Value) :
    Pq (((w.alloc (.cells #[.int .i64 k, .int .i64 s, .int .i64 d, .int .i64 r] 23)).alloc (.cells #[x, .int .i64 age] 26)).alloc (.cells #[y, z] 26)) w.heap.size k s d r x age := (pq_alloc w k s d r x age).below ((Below.refl _ _).alloc (Nat.le_refl _) _)
theorem pqr_below (w : World) (k s d r : Int) (x : Value) (age : Int) (y z : Value) :
    Below w.heap.size w (((w.alloc (.cells #[.int .i64 k, .int .i64 s, .int .i64 d, .int .i64 r] 23)).alloc (.cells #[x, .int .i64 age] 26)).alloc (.cells #[y, z] 26)) := chain (pq_below w k s d r x age) ((Below.refl _ _).alloc (Nat.le_refl _) _)

/-- A port is laid into the block that is answered. -/
theorem fin_port {n R base : Nat} {w w2 : World} {y z x : Value} {L : List ByteArray} (t : Two w2 R y z) (o : SLk w2 base x L) (d : Below n w w2) (h1 : R < base) (h2 : n ≤ R) (u : Value) :
    Two ((w2.setCell ⟨R, 0, none⟩ x).setCell ⟨R, 1, none⟩ u) R x u ∧ SLk ((w2.setCell ⟨R, 0, none⟩ x).setCell ⟨R, 1, none⟩ u) base x L ∧ Below n w ((w2.setCell ⟨R, 0, none⟩ x).setCell ⟨R, 1, none⟩ u) :=
  ⟨t.set x u, (o.setCell h1 x).setCell h1 u, (d.setCell h2 x).setCell h2 u⟩
def ageA (k s d r : Int) (l : List ByteArray) (age : Int) : Int := if chkErr k s d r l age = 0 then agedV k l.length age else 0
def ageL (k s d r : Int) (l : List ByteArray) (age : Int) : List ByteArray := if chkErr k s d r l age = 0 then l else []

set_option maxRecDepth 100000 in
set_option maxHeartbeats 4000000 in
theorem age_any {w : World} {E : Nat → Addr} (he : Errs w E) (k s d r age : Int) (a : Option Addr) (len cap : Nat) (l : List ByteArray) (hs : Sts w a len cap l) :
    Calls Tryd.prog 15 #[.agg #[.int .i64 k, .int .i64 s, .int .i64 d, .int .i64 r], .agg #[.slice a len cap, .int .i64 age]] w fun e w' => ∃ x v, e = .returned (.tuple #[.agg #[x, .int .i64 (ageA k s d r l age)], v]) ∧ Bare E v (chkErr k s d r l age) ∧ SLk w' w.heap.size x (ageL k s d r l age) ∧ Below w.heap.size w w' := by
  have HS := hide hs
  have HE := hide he
  have hl := hs.size
  have PQ := hide (pqr_pq w k s d r (.slice a len cap) age (.slice none 0 0) (.int .i64 0))
  have B0 := hide (pqr_below w k s d r (.slice a len cap) age (.slice none 0 0) (.int .i64 0))
  have T0 := hide (pqr_two w k s d r (.slice a len cap) age (.slice none 0 0) (.int .i64 0))
  have hz := pqr_size w k s d r (.slice a len cap) age (.slice none 0 0) (.int .i64 0)
  clear hs he
  go_enter Tryd.func15, Tryd.ntmps15
  go_wp2_with fail
  generalize ((w.alloc (.cells #[.int .i64 k, .int .i64 s, .int .i64 d, .int .i64 r] 23)).alloc (.cells #[.slice a len cap, .int .i64 age] 26)).alloc (.cells #[.slice none 0 0, .int .i64 0] 26) = W0 at *
  refine Calls.mono (check_any (HE.out.below B0.out) k s d r age a len cap l (HS.out.below B0.out)) ?_
  rintro e w1 ⟨v, rfl, hv, b1⟩
  have D1 := hide (chain B0.out b1)
  have P1 := hide (PQ.out.below b1)
  have T1 := hide (T0.out.below b1)
  have hz1 : W0.heap.size ≤ w1.heap.size := b1.size
  clear b1 PQ B0 T0
  rcases hv with ⟨rfl, h0⟩ | ⟨h1, h2, rfl⟩
  · have c0 := P1.out.c0
    have c1 := P1.out.c1
    have c2 := P1.out.c2
    have c3 := P1.out.c3
    have q0 := P1.out.q0
    have q1 := P1.out.q1
    have hage := chk0_age h0
    go_wp2_with fail
    refine Calls.mono (aged_any k s d r age a len cap l w1 (HS.out.below D1.out) hage.1 hage.2) ?_
    rintro e w2 ⟨x, rfl, o2, b2⟩
    obtain ⟨a1, c1', rfl, _⟩ := o2.row
    rw [hl] at o2 ⊢
    have O2 := hide o2
    have D2 := hide (chain D1.out b2)
    have T2 := hide (T1.out.below b2)
    clear o2 b2 D1 P1 T1 c0 c1 c2 c3 q0 q1 hage
    have HA : Hid (ageA k s d r l age = agedV k len age) := by unfold Hid ageA; rw [if_pos h0, hl]
    have HL : Hid (ageL k s d r l age = l) := by unfold Hid ageL; rw [if_pos h0]
    generalize hA : agedV k len age = A at *
    have g0 := T2.out.c0
    have g1 := T2.out.c1
    have f0 := T2.out.f0
    have f1 := T2.out.f1
    go_wp2
    have FP := hide (fin_port (u := .int .i64 A) T2.out O2.out D2.out (by omega) (by omega))
    generalize (w2.setCell ⟨w.heap.size + 1 + 1, 0, none⟩ (.slice a1 len c1')).setCell ⟨w.heap.size + 1 + 1, 1, none⟩ (.int .i64 A) = W9 at *
    have e0 := FP.out.1.c0
    have e1 := FP.out.1.c1
    (try simp only [Exit.inBlock, Exit.then])
    refine bodyPost_ret (v := .tuple #[.agg #[.slice a1 len c1', .int .i64 A], .nilIface]) (by simp [results, Tryd.results15, go_sem, e0, e1]) rfl ?_
    exact ⟨_, _, by rw [HA.out], bare_no h0, by rw [HL.out]; exact FP.out.2.1.weaken (by omega), FP.out.2.2⟩
  · have HA : Hid (ageA k s d r l age = 0) := by unfold Hid ageA; rw [if_neg (by omega)]
    have HL : Hid (ageL k s d r l age = []) := by unfold Hid ageL; rw [if_neg (by omega)]
    have g0 := T1.out.c0
    have g1 := T1.out.c1
    have f0 := T1.out.f0
    have f1 := T1.out.f1
    unfold sent
    go_wp2
    have FP := hide (fin_port (u := .int .i64 0) T1.out (slk_nil w1 W0.heap.size) D1.out (by omega) (by omega))
    generalize (w1.setCell ⟨w.heap.size + 1 + 1, 0, none⟩ (.slice none 0 0)).setCell ⟨w.heap.size + 1 + 1, 1, none⟩ (.int .i64 0) = W9 at *
    have e0 := FP.out.1.c0
    have e1 := FP.out.1.c1
    (try simp only [Exit.inBlock, Exit.then])
    refine bodyPost_ret (v := .tuple #[.agg #[.slice none 0 0, .int .i64 0], sent (E (chkErr k s d r l age))]) (by simp [results, Tryd.results15, go_sem, e0, e1, sent]) rfl ?_
    exact ⟨_, _, by rw [HA.out], bare_sent E _ h1 h2, by rw [HL.out]; exact FP.out.2.1.weaken (by omega), FP.out.2.2⟩
end Go.Proofs.YtpfmccgiijbcjaaDoorR
