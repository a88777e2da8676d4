/-
  A message more: the program's add.
-/
import Derived.Test.YtgcodajiehfloaaDoorPtAge2
import Derived.Test.YtgcodajiehfloaaDoorPtSmall
namespace Go.Proofs.YtgcodajiehfloaaDoor
open Go.RowKit
set_option linter.unusedVariables false
set_option linter.unusedSimpArgs false

/-- The number of add's error, of a port that fits; the list behind it. -/
def addErr (k s d : Int) (l : List ByteArray) (D : ByteArray) : Nat := if s < (D.size : Int) then 11 else if kque k = false then 0 else if (l.length : Int) = d then 14 else 0
def addL (k s d : Int) (l : List ByteArray) (D : ByteArray) : List ByteArray := if addErr k s d l D = 0 then (if kque k = true then l ++ [D] else [D]) else []

theorem Two.low {w w' : World} {b B : Nat} {x y : Value} (h : Two w b x y) (hb : Below B w w') (hl : b < B) : Two w' b x y :=
  ⟨by rw [hb.cell (p := ⟨b, 0, none⟩) hl]; exact h.c0, by rw [hb.cell (p := ⟨b, 1, none⟩) hl]; exact h.c1, by rw [hb.frozen (p := ⟨b, 0, none⟩) hl]; exact h.f0, by rw [hb.frozen (p := ⟨b, 1, none⟩) hl]; exact h.f1⟩
theorem slk_lit (w : World) (base : Nat) (D : ByteArray) (hb : base ≤ w.heap.size) : SLk (w.alloc (.cells #[.string D] 9)) base (.slice (some ⟨w.heap.size, 0, none⟩) 1 1) [D] := .inl (World.ownsRow_lit w #[.string D] 1 hb (by decide) rfl)
theorem row_lit (w : World) (D : ByteArray) : Row (w.alloc (.cells #[.string D] 9)) (some ⟨w.heap.size, 0, none⟩) 1 1 1 ([D].map sv) :=
  ⟨rfl, Nat.le_refl _, fun e => by simp at e, fun j v hv => ⟨_, _, rfl, by
    have hj : j = 0 := by
      have := (List.getElem?_eq_some_iff.1 hv).1
      simp at this
      exact this
    subst hj
    simp [sv] at hv
    subst hv
    rw [World.cell?_alloc_at _ _ _ _ rfl]
    rfl⟩⟩
set_option maxRecDepth 100000 in
set_option maxHeartbeats 4000000 in
theorem add_any {w : World} {E : Nat → Addr} (he : Errs w E) (k s d r age : Int) (a : Option Addr) (len cap : Nat) (l : List ByteArray) (D : ByteArray) (hs : Sts w a len cap l) (hD : D.size ≤ 9223372036854775807) :
    Calls Tryd.prog 33 #[.agg #[.int .i64 k, .int .i64 s, .int .i64 d, .int .i64 r], .agg #[.slice a len cap, .int .i64 age], .string D] w fun e w' => ∃ x v, e = .returned (.tuple #[.agg #[x, .int .i64 0], v]) ∧ Bare E v (addErr k s d l D) ∧ SLk w' w.heap.size x (addL k s d l D) ∧ Below w.heap.size w w' := by
  have HS := hide hs
  have HE := hide he
  have hl := hs.size
  have hm := hs.most
  have PQ := hide (pqr_pq w k s d r (.slice a len cap) age (.slice none 0 0) (.int .i64 0))
  have B0 := hide (pqr_below w k s d r (.slice a len cap) age (.slice none 0 0) (.int .i64 0))
  have T0 := hide (pqr_two w k s d r (.slice a len cap) age (.slice none 0 0) (.int .i64 0))
  have hz := pqr_size w k s d r (.slice a len cap) age (.slice none 0 0) (.int .i64 0)
  clear hs he
  go_enter Tryd.func33, Tryd.ntmps33
  by_cases g1 : s < (D.size : Int)
  · have hd : decide (s < (D.size : Int)) = true := decide_eq_true g1
    have HA : Hid (addErr k s d l D = 11) := by unfold Hid addErr; rw [if_pos g1]
    have HL : Hid (addL k s d l D = []) := by unfold Hid addL; rw [if_neg (by rw [HA.out]; decide)]
    go_wp2_with fail
    generalize ((w.alloc (.cells #[.int .i64 k, .int .i64 s, .int .i64 d, .int .i64 r] 23)).alloc (.cells #[.slice a len cap, .int .i64 age] 26)).alloc (.cells #[.slice none 0 0, .int .i64 0] 26) = W0 at *
    have g0 := T0.out.c0
    have g1' := T0.out.c1
    have f0 := T0.out.f0
    have f1 := T0.out.f1
    have vv := (HE.out.below B0.out).v11
    go_region_held3 (fun wz => wz.cell? ⟨12, 0, none⟩ = some (sent (E 11))) (first | exact vv | exact (HE.out.below ((B0.out.setCell (p := ⟨w.heap.size + 1 + 1, 0, none⟩) (by show _ ≤ w.heap.size + 1 + 1; omega) (.slice none 0 0)).setCell (p := ⟨w.heap.size + 1 + 1, 1, none⟩) (by show _ ≤ w.heap.size + 1 + 1; omega) (.int .i64 0))).v11) (fail)
    go_wp2
    have FP := hide (fin_port (u := .int .i64 0) T0.out (slk_nil W0 W0.heap.size) B0.out (by omega) (by omega))
    generalize (W0.setCell ⟨w.heap.size + 1 + 1, 0, none⟩ (.slice none 0 0)).setCell ⟨w.heap.size + 1 + 1, 1, none⟩ (.int .i64 0) = W9 at *
    have e0 := FP.out.1.c0
    have e1 := FP.out.1.c1
    (try simp only [Exit.inBlock, Exit.then])
    refine bodyPost_ret (v := .tuple #[.agg #[.slice none 0 0, .int .i64 0], sent (E 11)]) (by simp [results, Tryd.results33, go_sem, e0, e1]) rfl ?_
    exact ⟨_, _, rfl, bare_is 11 HA.out (by decide) (by decide), by rw [HL.out]; exact (FP.out.2.1.below ((Below.refl _ _).drew)).weaken (by omega), chain FP.out.2.2 ((Below.refl _ _).drew)⟩
  · have hd : decide (s < (D.size : Int)) = false := decide_eq_false g1
    go_wp2_with fail
    generalize ((w.alloc (.cells #[.int .i64 k, .int .i64 s, .int .i64 d, .int .i64 r] 23)).alloc (.cells #[.slice a len cap, .int .i64 age] 26)).alloc (.cells #[.slice none 0 0, .int .i64 0] 26) = W0 at *
    refine Calls.mono (isQueue_any k s d r W0) ?_
    rintro e w1 ⟨rfl, b1⟩
    have D1 := hide (chain B0.out b1)
    have P1 := hide (PQ.out.below b1)
    have T1 := hide (T0.out.below b1)
    have hz1 : W0.heap.size ≤ w1.heap.size := b1.size
    clear b1 PQ B0 T0
    cases hk : kque k
    · have TA := hide (T1.out.below ((Below.refl w1.heap.size w1).alloc (Nat.le_refl _) (.cells #[.string D] 9)))
      have g0 := TA.out.c0
      have g1' := TA.out.c1
      have f0 := TA.out.f0
      have f1 := TA.out.f1
      have DA := hide (chain D1.out ((Below.refl w1.heap.size w1).alloc (Nat.le_refl _) (.cells #[.string D] 9)))
      have OA := hide (slk_lit w1 W0.heap.size D hz1)
      have HA : Hid (addErr k s d l D = 0) := by unfold Hid addErr; rw [if_neg (by omega), if_pos hk]
      have HL : Hid (addL k s d l D = [D]) := by unfold Hid addL; rw [if_pos HA.out, if_neg (by rw [hk]; decide)]
      go_wp2
      have FP := hide (fin_port (u := .int .i64 0) TA.out OA.out DA.out (by omega) (by omega))
      generalize ((w1.alloc (.cells #[.string D] 9)).setCell ⟨w.heap.size + 1 + 1, 0, none⟩ (.slice (some ⟨w1.heap.size, 0, none⟩) 1 1)).setCell ⟨w.heap.size + 1 + 1, 1, none⟩ (.int .i64 0) = W9 at *
      have e0 := FP.out.1.c0
      have e1 := FP.out.1.c1
      (try simp only [Exit.inBlock, Exit.then])
      refine bodyPost_ret (v := .tuple #[.agg #[.slice (some ⟨w1.heap.size, 0, none⟩) 1 1, .int .i64 0], .nilIface]) (by simp [results, Tryd.results33, go_sem, e0, e1]) rfl ?_
      exact ⟨_, _, rfl, bare_no HA.out, by rw [HL.out]; exact FP.out.2.1.weaken (by omega), FP.out.2.2⟩
    · have q0 := P1.out.q0
      have c2 := P1.out.c2
      by_cases g2 : (len : Int) = d
      · have hd2 : ((len : Int) == d) = true := by simp [g2]
        have HA : Hid (addErr k s d l D = 14) := by unfold Hid addErr; rw [if_neg (by omega), if_neg (by rw [hk]; decide), if_pos (by rw [hl]; exact g2)]
        have HL : Hid (addL k s d l D = []) := by unfold Hid addL; rw [if_neg (by rw [HA.out]; decide)]
        go_wp2_with fail
        have g0 := T1.out.c0
        have g1' := T1.out.c1
        have f0 := T1.out.f0
        have f1 := T1.out.f1
        have vv := (HE.out.below D1.out).v14
        go_region_held3 (fun wz => wz.cell? ⟨13, 0, none⟩ = some (sent (E 14))) (first | exact vv | exact (HE.out.below ((D1.out.setCell (p := ⟨w.heap.size + 1 + 1, 0, none⟩) (by show _ ≤ w.heap.size + 1 + 1; omega) (.slice none 0 0)).setCell (p := ⟨w.heap.size + 1 + 1, 1, none⟩) (by show _ ≤ w.heap.size + 1 + 1; omega) (.int .i64 0))).v14) (fail)
        go_wp2
        have FP := hide (fin_port (u := .int .i64 0) T1.out (slk_nil w1 W0.heap.size) D1.out (by omega) (by omega))
        generalize (w1.setCell ⟨w.heap.size + 1 + 1, 0, none⟩ (.slice none 0 0)).setCell ⟨w.heap.size + 1 + 1, 1, none⟩ (.int .i64 0) = W9 at *
        have e0 := FP.out.1.c0
        have e1 := FP.out.1.c1
        (try simp only [Exit.inBlock, Exit.then])
        refine bodyPost_ret (v := .tuple #[.agg #[.slice none 0 0, .int .i64 0], sent (E 14)]) (by simp [results, Tryd.results33, go_sem, e0, e1]) rfl ?_
        exact ⟨_, _, rfl, bare_is 14 HA.out (by decide) (by decide), by rw [HL.out]; exact (FP.out.2.1.below ((Below.refl _ _).drew)).weaken (by omega), chain FP.out.2.2 ((Below.refl _ _).drew)⟩
      · have hd2 : ((len : Int) == d) = false := by simp [g2]
        have HA : Hid (addErr k s d l D = 0) := by unfold Hid addErr; rw [if_neg (by omega), if_neg (by rw [hk]; decide), if_neg (by rw [hl]; exact g2)]
        have HL : Hid (addL k s d l D = l ++ [D]) := by unfold Hid addL; rw [if_pos HA.out, if_pos hk]
        go_wp2_with fail
        refine Calls.mono (clone_any a len cap l w1 (HS.out.below D1.out)) ?_
        rintro e w2 ⟨v2, rfl, o2, b2⟩
        obtain ⟨a2, c2', rfl, _⟩ := o2.row
        rw [hl] at o2 ⊢
        have O2 := hide o2
        have D2 := hide (chain D1.out b2)
        have T2 := hide (T1.out.below b2)
        have hz2 : w1.heap.size ≤ w2.heap.size := b2.size
        have B3 := hide ((Below.refl w2.heap.size w2).alloc (Nat.le_refl _) (.cells #[.string D] 9))
        have RL := hide (row_lit w2 D)
        clear o2 b2 D1 T1 P1 q0 c2
        have hl3 : (l ++ [D]).length = len + 1 := by rw [List.length_append, hl]; rfl
        go_wp2_with (at_builtin; refine append_sts rfl (.tmp 31) (.tmp 33) rfl w1.heap.size _ l rfl (O2.out.below B3.out) (some ⟨w2.heap.size, 0, none⟩) 1 1 [D] rfl rfl RL.out (by rw [hl]; omega) (Nat.le_trans hz2 B3.out.size) ?_; intro v3 w3 h3 b3; obtain ⟨a3, c3', rfl, _⟩ := h3.row; rw [hl3] at h3 ⊢; have O3 := hide h3; have D3 := hide ((chain D2.out B3.out).trans (b3.mono (show w.heap.size ≤ w1.heap.size by omega))); have T3 := hide (T2.out.low (B3.out.mono (show w1.heap.size ≤ w2.heap.size from hz2) |>.trans b3) (by omega)); have g0 := T3.out.c0; have g1' := T3.out.c1; have f0 := T3.out.f0; have f1 := T3.out.f1; clear h3 b3)
        have FP := hide (fin_port (u := .int .i64 0) T3.out O3.out D3.out (by omega) (by omega))
        generalize (w3.setCell ⟨w.heap.size + 1 + 1, 0, none⟩ (.slice a3 (len + 1) c3')).setCell ⟨w.heap.size + 1 + 1, 1, none⟩ (.int .i64 0) = W9 at *
        have e0 := FP.out.1.c0
        have e1 := FP.out.1.c1
        (try simp only [Exit.inBlock, Exit.then])
        refine bodyPost_ret (v := .tuple #[.agg #[.slice a3 (len + 1) c3', .int .i64 0], .nilIface]) (by simp [results, Tryd.results33, go_sem, e0, e1]) rfl ?_
        exact ⟨_, _, rfl, bare_no HA.out, by rw [HL.out]; exact FP.out.2.1.weaken (by omega), FP.out.2.2⟩
end Go.Proofs.YtgcodajiehfloaaDoor
