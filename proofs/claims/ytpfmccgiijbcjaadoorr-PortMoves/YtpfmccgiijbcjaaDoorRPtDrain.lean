/-
  A port out emptied: Drain on both sides; the document's Put and Write.
-/
import Derived.Test.YtpfmccgiijbcjaaDoorRPtRGet
namespace Go.Proofs.YtpfmccgiijbcjaaDoorR
open Go.RowKit
set_option linter.unusedVariables false
set_option linter.unusedSimpArgs false

def drnErr (k s d r : Int) (l : List ByteArray) (age : Int) : Nat := if chkErr k s d r l age = 0 then (if kin k = true then 7 else 0) else chkErr k s d r l age
def drnL (k s d r : Int) (l : List ByteArray) (age : Int) : List ByteArray := if drnErr k s d r l age = 0 then l else []

set_option maxRecDepth 100000 in
set_option maxHeartbeats 4000000 in
theorem drain_any {w : World} {E : Nat → Addr} (he : Errs w E) (k s d r age : Int) (a : Option Addr) (len cap : Nat) (l : List ByteArray) (hs : Sts w a len cap l) :
    Calls Tryd.prog 28 #[.agg #[.int .i64 k, .int .i64 s, .int .i64 d, .int .i64 r], .agg #[.slice a len cap, .int .i64 age]] w fun e w' => ∃ y v, e = .returned (.tuple #[.agg #[.slice none 0 0, .int .i64 0], y, v]) ∧ Bare E v (drnErr k s d r l age) ∧ SLk w' w.heap.size y (drnL k s d r l age) ∧ Below w.heap.size w w' := by
  have HE := hide he
  clear he
  have HS := hide hs
  have hl := hs.size
  have hm := hs.most
  have PQ := hide (pqr_pq w k s d r (.slice a len cap) age (.slice none 0 0) (.int .i64 0))
  have B0 := hide (pqr_below w k s d r (.slice a len cap) age (.slice none 0 0) (.int .i64 0))
  have T0 := hide (pqr_two w k s d r (.slice a len cap) age (.slice none 0 0) (.int .i64 0))
  have hz := pqr_size w k s d r (.slice a len cap) age (.slice none 0 0) (.int .i64 0)
  clear hs
  go_enter Tryd.func28, Tryd.ntmps28
  go_wp2_with fail
  generalize ((w.alloc (.cells #[.int .i64 k, .int .i64 s, .int .i64 d, .int .i64 r] 23)).alloc (.cells #[.slice a len cap, .int .i64 age] 26)).alloc (.cells #[.slice none 0 0, .int .i64 0] 26) = W0 at *
  refine Calls.mono (check_any (HE.out.below B0.out) k s d r age a len cap l (HS.out.below B0.out)) ?_
  rintro e w1 ⟨v, rfl, hv, b1⟩
  have D1 := hide (chain B0.out b1)
  have P1 := hide (PQ.out.below b1)
  have T1 := hide (T0.out.below b1)
  have hz1 : W0.heap.size ≤ w1.heap.size := b1.size
  clear b1 PQ B0 T0
  rcases hv with ⟨rfl, h0⟩ | ⟨h1, h2, rfl⟩
  · have hdummy := h0
    have c0 := P1.out.c0
    have c1 := P1.out.c1
    have c2 := P1.out.c2
    have c3 := P1.out.c3
    go_wp2_with fail
    refine Calls.mono (isIn_any k s d r w1) ?_
    rintro e w2 ⟨rfl, b2⟩
    have D2 := hide (chain D1.out b2)
    have P2 := hide (P1.out.below b2)
    have T2 := hide (T1.out.below b2)
    have hz2 : w1.heap.size ≤ w2.heap.size := b2.size
    clear b2 c0 c1 c2 c3 D1 P1 T1
    have g0 := T2.out.c0
    have g1 := T2.out.c1
    have f0 := T2.out.f0
    have f1 := T2.out.f1
    have q0 := P2.out.q0
    cases hk : kin k
    · have HA : Hid (drnErr k s d r l age = 0) := by unfold Hid drnErr; rw [if_pos h0, if_neg (by rw [hk]; decide)]
      have HL : Hid (drnL k s d r l age = l) := by unfold Hid drnL; rw [if_pos HA.out]
      go_wp2_with fail
      refine Calls.mono (clone_any a len cap l w2 (HS.out.below D2.out)) ?_
      rintro e w5 ⟨v5, rfl, o5, b5⟩
      have B5 := hide b5
      obtain ⟨a5, c5, rfl, _⟩ := o5.row
      rw [hl] at o5 ⊢
      have O5 := hide o5
      have T5 := hide (T2.out.below B5.out)
      have ga := T5.out.c0
      have gb := T5.out.c1
      have gc := T5.out.f0
      have gd := T5.out.f1
      clear b5 o5
      have D5 := hide (chain D2.out B5.out)
      clear q0 P2 B5 D2 T2 g0 g1 f0 f1
      go_wp2
      have OF := hide ((O5.out.setCell (p := ⟨w.heap.size + 1 + 1, 0, none⟩) (by show _ < w2.heap.size; simp; omega) (.slice none 0 0)).setCell (p := ⟨w.heap.size + 1 + 1, 1, none⟩) (by show _ < w2.heap.size; simp; omega) (.int .i64 0))
      have FP := hide (fin_port (u := .int .i64 0) T5.out (slk_nil w5 W0.heap.size) D5.out (by omega) (by omega))
      generalize (w5.setCell ⟨w.heap.size + 1 + 1, 0, none⟩ (.slice none 0 0)).setCell ⟨w.heap.size + 1 + 1, 1, none⟩ (.int .i64 0) = W9 at *
      have e0 := FP.out.1.c0
      have e1 := FP.out.1.c1
      (try simp only [Exit.inBlock, Exit.then])
      refine bodyPost_ret (v := .tuple #[.agg #[.slice none 0 0, .int .i64 0], .slice a5 len c5, .nilIface]) (by simp [results, Tryd.results28, go_sem, e0, e1]; try rfl) rfl ?_
      exact ⟨_, _, rfl, bare_no HA.out, by rw [HL.out]; exact OF.out.weaken (by show _ ≤ w2.heap.size; omega), FP.out.2.2⟩
    · have HA : Hid (drnErr k s d r l age = 7) := by unfold Hid drnErr; rw [if_pos h0, if_pos hk]
      have HL : Hid (drnL k s d r l age = []) := by unfold Hid drnL; rw [if_neg (by rw [HA.out]; decide)]
      clear q0
      go_wp2_with fail
      have vv := (HE.out.below D2.out).v7
      go_region_held3 (fun wz => wz.cell? ⟨0, 0, none⟩ = some (sent (E 7))) (first | exact vv | exact (HE.out.below ((D2.out.setCell (p := ⟨w.heap.size + 1 + 1, 0, none⟩) (by show _ ≤ w.heap.size + 1 + 1; omega) (.slice none 0 0)).setCell (p := ⟨w.heap.size + 1 + 1, 1, none⟩) (by show _ ≤ w.heap.size + 1 + 1; omega) (.int .i64 0))).v7) (fail)
      go_wp2
      have FP := hide (fin_port (u := .int .i64 0) T2.out (slk_nil w2 W0.heap.size) D2.out (by omega) (by omega))
      generalize (w2.setCell ⟨w.heap.size + 1 + 1, 0, none⟩ (.slice none 0 0)).setCell ⟨w.heap.size + 1 + 1, 1, none⟩ (.int .i64 0) = W9 at *
      have e0 := FP.out.1.c0
      have e1 := FP.out.1.c1
      (try simp only [Exit.inBlock, Exit.then])
      refine bodyPost_ret (v := .tuple #[.agg #[.slice none 0 0, .int .i64 0], .slice none 0 0, sent (E 7)]) (by simp [results, Tryd.results28, go_sem, e0, e1]; try rfl) rfl ?_
      exact ⟨_, _, rfl, bare_is 7 HA.out (by decide) (by decide), by rw [HL.out]; exact slk_nil _ _, chain FP.out.2.2 ((Below.refl _ _).drew)⟩
  · have HA : Hid (drnErr k s d r l age = chkErr k s d r l age) := by unfold Hid drnErr; rw [if_neg (by omega)]
    have HL : Hid (drnL k s d r l age = []) := by unfold Hid drnL; rw [if_neg (by rw [HA.out]; omega)]
    have g0 := T1.out.c0
    have g1 := T1.out.c1
    have f0 := T1.out.f0
    have f1 := T1.out.f1
    unfold sent
    go_wp2
    have FP := hide (fin_port (u := .int .i64 0) T1.out (slk_nil w1 W0.heap.size) D1.out (by omega) (by omega))
    generalize (w1.setCell ⟨w.heap.size + 1 + 1, 0, none⟩ (.slice none 0 0)).setCell ⟨w.heap.size + 1 + 1, 1, none⟩ (.int .i64 0) = W9 at *
    have e0 := FP.out.1.c0
    have e1 := FP.out.1.c1
    (try simp only [Exit.inBlock, Exit.then])
    refine bodyPost_ret (v := .tuple #[.agg #[.slice none 0 0, .int .i64 0], .slice none 0 0, sent (E (chkErr k s d r l age))]) (by simp [results, Tryd.results28, go_sem, e0, e1, sent]; try rfl) rfl ?_
    exact ⟨_, _, rfl, by rw [HA.out]; exact bare_sent E _ h1 h2, by rw [HL.out]; exact slk_nil _ _, FP.out.2.2⟩

set_option maxRecDepth 100000 in
set_option maxHeartbeats 4000000 in
theorem refDrain_any {w : World} (k s d r age : Int) (a : Option Addr) (len cap : Nat) (l : List ByteArray) (hs : Sts w a len cap l) :
    Calls Tryd.prog 29 #[.agg #[.int .i64 k, .int .i64 s, .int .i64 d, .int .i64 r], .agg #[.slice a len cap, .int .i64 age]] w fun e w' => ∃ y, e = .returned (.tuple #[.agg #[.slice none 0 0, .int .i64 0], y, .int .i64 (drnErr k s d r l age : Int)]) ∧ SLk w' w.heap.size y (drnL k s d r l age) ∧ Below w.heap.size w w' := by
  have HS := hide hs
  have hl := hs.size
  have hm := hs.most
  have PQ := hide (pqr_pq w k s d r (.slice a len cap) age (.slice none 0 0) (.int .i64 0))
  have B0 := hide (pqr_below w k s d r (.slice a len cap) age (.slice none 0 0) (.int .i64 0))
  have T0 := hide (pqr_two w k s d r (.slice a len cap) age (.slice none 0 0) (.int .i64 0))
  have hz := pqr_size w k s d r (.slice a len cap) age (.slice none 0 0) (.int .i64 0)
  clear hs
  go_enter Tryd.func29, Tryd.ntmps29
  go_wp2_with fail
  generalize ((w.alloc (.cells #[.int .i64 k, .int .i64 s, .int .i64 d, .int .i64 r] 23)).alloc (.cells #[.slice a len cap, .int .i64 age] 26)).alloc (.cells #[.slice none 0 0, .int .i64 0] 26) = W0 at *
  refine Calls.mono (refCheck_any k s d r age a len cap l (HS.out.below B0.out)) ?_
  rintro e w1 ⟨rfl, b1⟩
  have D1 := hide (chain B0.out b1)
  have P1 := hide (PQ.out.below b1)
  have T1 := hide (T0.out.below b1)
  have hz1 : W0.heap.size ≤ w1.heap.size := b1.size
  clear b1 PQ B0 T0
  by_cases h0 : chkErr k s d r l age = 0
  · rw [h0]
    have c0 := P1.out.c0
    have c1 := P1.out.c1
    have c2 := P1.out.c2
    have c3 := P1.out.c3
    go_wp2_with fail
    refine Calls.mono (refIsIn_any k s d r w1) ?_
    rintro e w2 ⟨rfl, b2⟩
    have D2 := hide (chain D1.out b2)
    have P2 := hide (P1.out.below b2)
    have T2 := hide (T1.out.below b2)
    have hz2 : w1.heap.size ≤ w2.heap.size := b2.size
    clear b2 c0 c1 c2 c3 D1 P1 T1
    have g0 := T2.out.c0
    have g1 := T2.out.c1
    have f0 := T2.out.f0
    have f1 := T2.out.f1
    have q0 := P2.out.q0
    cases hk : kin k
    · have HA : Hid (drnErr k s d r l age = 0) := by unfold Hid drnErr; rw [if_pos h0, if_neg (by rw [hk]; decide)]
      have HL : Hid (drnL k s d r l age = l) := by unfold Hid drnL; rw [if_pos HA.out]
      have HR := hide ((HS.out.row.below D2.out).below (new_below' w2 (.cells #[] 9)))
      have qn := cell_below q0 (new_below' w2 (.cells #[] 9))
      go_wp2_with (at_builtin; refine append_sts rfl (.tmp 19) (.tmp 21) rfl w2.heap.size _ [] rfl (slk_empty w2 _ (Nat.le_refl _)) a len cap l rfl hl HR.out (by simp; omega) (new_below' w2 (.cells #[] 9)).size ?_; intro v5 w5 h5 b5; have B5 : Hid (Below w2.heap.size w2 w5) := (new_below' w2 (.cells #[] 9)).trans b5; rw [List.nil_append] at h5; obtain ⟨a5, c5, rfl, _⟩ := h5.row; rw [hl] at h5 ⊢; have O5 := hide h5; have T5 := hide (T2.out.below B5.out); have ga := T5.out.c0; have gb := T5.out.c1; have gc := T5.out.f0; have gd := T5.out.f1; clear h5 b5)
      have D5 := hide (chain D2.out B5.out)
      clear q0 P2 B5 D2 T2 g0 g1 f0 f1
      have OF := hide ((O5.out.setCell (p := ⟨w.heap.size + 1 + 1, 0, none⟩) (by show _ < w2.heap.size; simp; omega) (.slice none 0 0)).setCell (p := ⟨w.heap.size + 1 + 1, 1, none⟩) (by show _ < w2.heap.size; simp; omega) (.int .i64 0))
      have FP := hide (fin_port (u := .int .i64 0) T5.out (slk_nil w5 W0.heap.size) D5.out (by omega) (by omega))
      generalize (w5.setCell ⟨w.heap.size + 1 + 1, 0, none⟩ (.slice none 0 0)).setCell ⟨w.heap.size + 1 + 1, 1, none⟩ (.int .i64 0) = W9 at *
      have e0 := FP.out.1.c0
      have e1 := FP.out.1.c1
      (try simp only [Exit.inBlock, Exit.then])
      refine bodyPost_ret (v := .tuple #[.agg #[.slice none 0 0, .int .i64 0], .slice a5 len c5, .int .i64 0]) (by simp [results, Tryd.results29, go_sem, e0, e1]; try rfl) rfl ?_
      exact ⟨_, by rw [HA.out]; rfl, by rw [HL.out]; exact OF.out.weaken (by show _ ≤ w2.heap.size; omega), FP.out.2.2⟩
    · have HA : Hid (drnErr k s d r l age = 7) := by unfold Hid drnErr; rw [if_pos h0, if_pos hk]
      have HL : Hid (drnL k s d r l age = []) := by unfold Hid drnL; rw [if_neg (by rw [HA.out]; decide)]
      clear q0
      go_wp2
      have FP := hide (fin_port (u := .int .i64 0) T2.out (slk_nil w2 W0.heap.size) D2.out (by omega) (by omega))
      generalize (w2.setCell ⟨w.heap.size + 1 + 1, 0, none⟩ (.slice none 0 0)).setCell ⟨w.heap.size + 1 + 1, 1, none⟩ (.int .i64 0) = W9 at *
      have e0 := FP.out.1.c0
      have e1 := FP.out.1.c1
      (try simp only [Exit.inBlock, Exit.then])
      refine bodyPost_ret (v := .tuple #[.agg #[.slice none 0 0, .int .i64 0], .slice none 0 0, .int .i64 7]) (by simp [results, Tryd.results29, go_sem, e0, e1]; try rfl) rfl ?_
      exact ⟨_, by rw [HA.out]; rfl, by rw [HL.out]; exact slk_nil _ _, FP.out.2.2⟩
  · have HA : Hid (drnErr k s d r l age = chkErr k s d r l age) := by unfold Hid drnErr; rw [if_neg h0]
    have HL : Hid (drnL k s d r l age = []) := by unfold Hid drnL; rw [if_neg (by rw [HA.out]; exact h0)]
    have g0 := T1.out.c0
    have g1 := T1.out.c1
    have f0 := T1.out.f0
    have f1 := T1.out.f1
    have hne : ((chkErr k s d r l age : Int) != 0) = true := by simp; omega
    generalize hP : chkErr k s d r l age = P at *
    clear h0
    go_wp2
    have FP := hide (fin_port (u := .int .i64 0) T1.out (slk_nil w1 W0.heap.size) D1.out (by omega) (by omega))
    generalize (w1.setCell ⟨w.heap.size + 1 + 1, 0, none⟩ (.slice none 0 0)).setCell ⟨w.heap.size + 1 + 1, 1, none⟩ (.int .i64 0) = W9 at *
    have e0 := FP.out.1.c0
    have e1 := FP.out.1.c1
    (try simp only [Exit.inBlock, Exit.then])
    refine bodyPost_ret (v := .tuple #[.agg #[.slice none 0 0, .int .i64 0], .slice none 0 0, .int .i64 (P : Int)]) (by simp [results, Tryd.results29, go_sem, e0, e1]; try rfl) rfl ?_
    exact ⟨_, by rw [HA.out], by rw [HL.out]; exact slk_nil _ _, FP.out.2.2⟩

set_option maxRecDepth 100000 in
set_option maxHeartbeats 4000000 in
theorem refPut_any {w : World} (k s d r age : Int) (a : Option Addr) (len cap : Nat) (l : List ByteArray) (D : ByteArray) (hs : Sts w a len cap l) (hD : D.size ≤ 9223372036854775807) :
    Calls Tryd.prog 23 #[.agg #[.int .i64 k, .int .i64 s, .int .i64 d, .int .i64 r], .agg #[.slice a len cap, .int .i64 age], .string D] w fun e w' => ∃ x, e = .returned (.tuple #[.agg #[x, .int .i64 0], .int .i64 (movErr true k s d r l age D : Int)]) ∧ SLk w' w.heap.size x (movL true k s d r l age D) ∧ Below w.heap.size w w' := by
  have HS := hide hs
  have hl := hs.size
  have hm := hs.most
  have PQ := hide (pqr_pq w k s d r (.slice a len cap) age (.slice none 0 0) (.int .i64 0))
  have B0 := hide (pqr_below w k s d r (.slice a len cap) age (.slice none 0 0) (.int .i64 0))
  have T0 := hide (pqr_two w k s d r (.slice a len cap) age (.slice none 0 0) (.int .i64 0))
  have hz := pqr_size w k s d r (.slice a len cap) age (.slice none 0 0) (.int .i64 0)
  clear hs
  go_enter Tryd.func23, Tryd.ntmps23
  go_wp2_with fail
  generalize ((w.alloc (.cells #[.int .i64 k, .int .i64 s, .int .i64 d, .int .i64 r] 23)).alloc (.cells #[.slice a len cap, .int .i64 age] 26)).alloc (.cells #[.slice none 0 0, .int .i64 0] 26) = W0 at *
  refine Calls.mono (refAdd_any true k s d r age a len cap l D (HS.out.below B0.out) hD) ?_
  rintro e w1 ⟨x1, rfl, o1, b1⟩
  obtain ⟨a3, c3', rfl, _⟩ := o1.row
  have O3 := hide o1
  have D3 := hide (chain B0.out b1)
  have T3 := hide (T0.out.below b1)
  clear o1 b1 PQ B0 T0
  have g0 := T3.out.c0
  have g1 := T3.out.c1
  have f0 := T3.out.f0
  have f1 := T3.out.f1
  generalize hn3 : (movL true k s d r l age D).length = n3 at *
  generalize hP : movErr true k s d r l age D = P at *
  go_wp2
  have FP := hide (fin_port (u := .int .i64 0) T3.out O3.out D3.out (by omega) (by omega))
  generalize (w1.setCell ⟨w.heap.size + 1 + 1, 0, none⟩ (.slice a3 n3 c3')).setCell ⟨w.heap.size + 1 + 1, 1, none⟩ (.int .i64 0) = W9 at *
  have e0 := FP.out.1.c0
  have e1 := FP.out.1.c1
  (try simp only [Exit.inBlock, Exit.then])
  refine bodyPost_ret (v := .tuple #[.agg #[.slice a3 n3 c3', .int .i64 0], .int .i64 (P : Int)]) (by simp [results, Tryd.results23, go_sem, e0, e1]; try rfl) rfl ?_
  exact ⟨_, by rw [hP], FP.out.2.1.weaken (by omega), FP.out.2.2⟩

set_option maxRecDepth 100000 in
set_option maxHeartbeats 4000000 in
theorem refWrite_any {w : World} (k s d r age : Int) (a : Option Addr) (len cap : Nat) (l : List ByteArray) (D : ByteArray) (hs : Sts w a len cap l) (hD : D.size ≤ 9223372036854775807) :
    Calls Tryd.prog 25 #[.agg #[.int .i64 k, .int .i64 s, .int .i64 d, .int .i64 r], .agg #[.slice a len cap, .int .i64 age], .string D] w fun e w' => ∃ x, e = .returned (.tuple #[.agg #[x, .int .i64 0], .int .i64 (movErr false k s d r l age D : Int)]) ∧ SLk w' w.heap.size x (movL false k s d r l age D) ∧ Below w.heap.size w w' := by
  have HS := hide hs
  have hl := hs.size
  have hm := hs.most
  have PQ := hide (pqr_pq w k s d r (.slice a len cap) age (.slice none 0 0) (.int .i64 0))
  have B0 := hide (pqr_below w k s d r (.slice a len cap) age (.slice none 0 0) (.int .i64 0))
  have T0 := hide (pqr_two w k s d r (.slice a len cap) age (.slice none 0 0) (.int .i64 0))
  have hz := pqr_size w k s d r (.slice a len cap) age (.slice none 0 0) (.int .i64 0)
  clear hs
  go_enter Tryd.func25, Tryd.ntmps25
  go_wp2_with fail
  generalize ((w.alloc (.cells #[.int .i64 k, .int .i64 s, .int .i64 d, .int .i64 r] 23)).alloc (.cells #[.slice a len cap, .int .i64 age] 26)).alloc (.cells #[.slice none 0 0, .int .i64 0] 26) = W0 at *
  refine Calls.mono (refAdd_any false k s d r age a len cap l D (HS.out.below B0.out) hD) ?_
  rintro e w1 ⟨x1, rfl, o1, b1⟩
  obtain ⟨a3, c3', rfl, _⟩ := o1.row
  have O3 := hide o1
  have D3 := hide (chain B0.out b1)
  have T3 := hide (T0.out.below b1)
  clear o1 b1 PQ B0 T0
  have g0 := T3.out.c0
  have g1 := T3.out.c1
  have f0 := T3.out.f0
  have f1 := T3.out.f1
  generalize hn3 : (movL false k s d r l age D).length = n3 at *
  generalize hP : movErr false k s d r l age D = P at *
  go_wp2
  have FP := hide (fin_port (u := .int .i64 0) T3.out O3.out D3.out (by omega) (by omega))
  generalize (w1.setCell ⟨w.heap.size + 1 + 1, 0, none⟩ (.slice a3 n3 c3')).setCell ⟨w.heap.size + 1 + 1, 1, none⟩ (.int .i64 0) = W9 at *
  have e0 := FP.out.1.c0
  have e1 := FP.out.1.c1
  (try simp only [Exit.inBlock, Exit.then])
  refine bodyPost_ret (v := .tuple #[.agg #[.slice a3 n3 c3', .int .i64 0], .int .i64 (P : Int)]) (by simp [results, Tryd.results25, go_sem, e0, e1]; try rfl) rfl ?_
  exact ⟨_, by rw [hP], FP.out.2.1.weaken (by omega), FP.out.2.2⟩
end Go.Proofs.YtpfmccgiijbcjaaDoorR
