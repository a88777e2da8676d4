/-
  What a process reads: the program's Get.
-/
import Derived.Test.YtgcodajiehfloaaDoorPtPut
namespace Go.Proofs.YtgcodajiehfloaaDoor
open Go.RowKit
set_option linter.unusedVariables false
set_option linter.unusedSimpArgs false

/-- The number of Get's error; what it answers: the list and the age behind it, the text, is it fresh. -/
def getErr (k s d r : Int) (l : List ByteArray) (age : Int) : Nat := if chkErr k s d r l age = 0 then (if kin k = true then (if l.length = 0 then 17 else 0) else 7) else chkErr k s d r l age
structure Got where
  list : List ByteArray
  age : Int
  text : ByteArray
  fresh : Bool
def noGot : Got := ⟨[], 0, ByteArray.empty, false⟩
def got (k s d r : Int) (l : List ByteArray) (age : Int) : Got := if getErr k s d r l age = 0 then (if kque k = true then ⟨l.drop 1, 0, l.headD ByteArray.empty, true⟩ else ⟨l, age, l.headD ByteArray.empty, decide (age < r)⟩) else noGot

theorem Sts.tail {w : World} {b off len cap : Nat} {l : List ByteArray} (h : Sts w (some ⟨b, off, none⟩) len cap l) (h1 : 1 ≤ len) :
    Sts w (if cap = 1 then some ⟨b, off, none⟩ else some ⟨b, off + 1, none⟩) (len - 1) (cap - 1) (l.drop 1) := by
  have hf := h.row.fit
  have hl := h.size
  have hm := h.most
  refine ⟨by rw [List.length_drop, hl], by omega, fun x hx => h.small x (List.mem_of_mem_drop hx), ?_⟩
  by_cases hc : cap = 1
  · rw [if_pos hc]
    have hn : l.drop 1 = [] := List.length_eq_zero_iff.1 (by rw [List.length_drop]; omega)
    rw [hn]
    exact ⟨by simp; omega, by omega, fun e => by simp at e, fun j v hv => by simp at hv⟩
  · rw [if_neg hc]
    refine ⟨by simp [hl], by omega, fun e => by simp at e, fun j v hv => ⟨b, off + 1, rfl, ?_⟩⟩
    have hv' : (l.map sv)[1 + j]? = some v := by
      rw [List.map_drop, List.getElem?_drop] at hv
      exact hv
    obtain ⟨b', off', e, hcell⟩ := h.row.cell (1 + j) v hv'
    simp only [Option.some.injEq, Addr.mk.injEq, and_true] at e
    obtain ⟨rfl, rfl⟩ := e
    rw [Nat.add_assoc]
    exact hcell

set_option maxRecDepth 100000 in
set_option maxHeartbeats 4000000 in
theorem get_any {w : World} {E : Nat → Addr} (he : Errs w E) (k s d r age : Int) (a : Option Addr) (len cap : Nat) (l : List ByteArray) (hs : Sts w a len cap l) :
    Calls Tryd.prog 17 #[.agg #[.int .i64 k, .int .i64 s, .int .i64 d, .int .i64 r], .agg #[.slice a len cap, .int .i64 age]] w fun e w' => ∃ x v, e = .returned (.tuple #[.agg #[x, .int .i64 (got k s d r l age).age], .string (got k s d r l age).text, .bool (got k s d r l age).fresh, v]) ∧ Bare E v (getErr k s d r l age) ∧ SLk w' w.heap.size x (got k s d r l age).list ∧ Below w.heap.size w w' := by
  have HS := hide hs
  have HE := hide he
  have hl := hs.size
  have hm := hs.most
  have PQ := hide (pqr_pq w k s d r (.slice a len cap) age (.slice none 0 0) (.int .i64 0))
  have B0 := hide (pqr_below w k s d r (.slice a len cap) age (.slice none 0 0) (.int .i64 0))
  have T0 := hide (pqr_two w k s d r (.slice a len cap) age (.slice none 0 0) (.int .i64 0))
  have hz := pqr_size w k s d r (.slice a len cap) age (.slice none 0 0) (.int .i64 0)
  clear hs he
  go_enter Tryd.func17, Tryd.ntmps17
  go_wp2_with fail
  generalize ((w.alloc (.cells #[.int .i64 k, .int .i64 s, .int .i64 d, .int .i64 r] 23)).alloc (.cells #[.slice a len cap, .int .i64 age] 26)).alloc (.cells #[.slice none 0 0, .int .i64 0] 26) = W0 at *
  refine Calls.mono (check_any (HE.out.below B0.out) k s d r age a len cap l (HS.out.below B0.out)) ?_
  rintro e w1 ⟨v, rfl, hv, b1⟩
  have D1 := hide (chain B0.out b1)
  have P1 := hide (PQ.out.below b1)
  have T1 := hide (T0.out.below b1)
  have hz1 : W0.heap.size ≤ w1.heap.size := b1.size
  clear b1 PQ B0 T0
  rcases hv with ⟨rfl, h0⟩ | ⟨h1, h2, rfl⟩
  · have c0 := P1.out.c0
    have c1 := P1.out.c1
    have c2 := P1.out.c2
    have c3 := P1.out.c3
    go_wp2_with fail
    refine Calls.mono (isIn_any k s d r w1) ?_
    rintro e w2 ⟨rfl, b2⟩
    have D2 := hide (chain D1.out b2)
    have P2 := hide (P1.out.below b2)
    have T2 := hide (T1.out.below b2)
    have hz2 : w1.heap.size ≤ w2.heap.size := b2.size
    clear b2 c0 c1 c2 c3 D1 P1 T1
    cases hk : kin k
    · have HA : Hid (getErr k s d r l age = 7) := by unfold Hid getErr; rw [if_pos h0, if_neg (by rw [hk]; decide)]
      have HP : Hid (got k s d r l age = noGot) := by unfold Hid got; rw [if_neg (by rw [HA.out]; decide)]
      go_wp2_with fail
      have g0 := T2.out.c0
      have g1' := T2.out.c1
      have f0 := T2.out.f0
      have f1 := T2.out.f1
      have vv := (HE.out.below D2.out).v7
      go_region_held3 (fun wz => wz.cell? ⟨0, 0, none⟩ = some (sent (E 7))) (first | exact vv | exact (HE.out.below ((D2.out.setCell (p := ⟨w.heap.size + 1 + 1, 0, none⟩) (by show _ ≤ w.heap.size + 1 + 1; omega) (.slice none 0 0)).setCell (p := ⟨w.heap.size + 1 + 1, 1, none⟩) (by show _ ≤ w.heap.size + 1 + 1; omega) (.int .i64 0))).v7) (fail)
      go_wp2
      have FP := hide (fin_port (u := .int .i64 0) T2.out (slk_nil w2 W0.heap.size) D2.out (by omega) (by omega))
      generalize (w2.setCell ⟨w.heap.size + 1 + 1, 0, none⟩ (.slice none 0 0)).setCell ⟨w.heap.size + 1 + 1, 1, none⟩ (.int .i64 0) = W9 at *
      have e0 := FP.out.1.c0
      have e1 := FP.out.1.c1
      (try simp only [Exit.inBlock, Exit.then])
      refine bodyPost_ret (v := .tuple #[.agg #[.slice none 0 0, .int .i64 0], .string ByteArray.empty, .bool false, sent (E 7)]) (by simp [results, Tryd.results17, go_sem, e0, e1]; rfl) rfl ?_
      exact ⟨_, _, by rw [HP.out]; rfl, bare_is 7 HA.out (by decide) (by decide), by rw [HP.out]; exact (FP.out.2.1.below ((Below.refl _ _).drew)).weaken (by omega), chain FP.out.2.2 ((Below.refl _ _).drew)⟩
    · have q0 := P2.out.q0
      by_cases hn : len = 0
      · have HA : Hid (getErr k s d r l age = 17) := by unfold Hid getErr; rw [if_pos h0, if_pos hk, if_pos (by rw [hl]; exact hn)]
        have HP : Hid (got k s d r l age = noGot) := by unfold Hid got; rw [if_neg (by rw [HA.out]; decide)]
        subst hn
        go_wp2_with fail
        have g0 := T2.out.c0
        have g1' := T2.out.c1
        have f0 := T2.out.f0
        have f1 := T2.out.f1
        have vv := (HE.out.below D2.out).v17
        go_region_held3 (fun wz => wz.cell? ⟨1, 0, none⟩ = some (sent (E 17))) (first | exact vv | exact (HE.out.below ((D2.out.setCell (p := ⟨w.heap.size + 1 + 1, 0, none⟩) (by show _ ≤ w.heap.size + 1 + 1; omega) (.slice none 0 0)).setCell (p := ⟨w.heap.size + 1 + 1, 1, none⟩) (by show _ ≤ w.heap.size + 1 + 1; omega) (.int .i64 0))).v17) (fail)
        go_wp2
        have FP := hide (fin_port (u := .int .i64 0) T2.out (slk_nil w2 W0.heap.size) D2.out (by omega) (by omega))
        generalize (w2.setCell ⟨w.heap.size + 1 + 1, 0, none⟩ (.slice none 0 0)).setCell ⟨w.heap.size + 1 + 1, 1, none⟩ (.int .i64 0) = W9 at *
        have e0 := FP.out.1.c0
        have e1 := FP.out.1.c1
        (try simp only [Exit.inBlock, Exit.then])
        refine bodyPost_ret (v := .tuple #[.agg #[.slice none 0 0, .int .i64 0], .string ByteArray.empty, .bool false, sent (E 17)]) (by simp [results, Tryd.results17, go_sem, e0, e1]; rfl) rfl ?_
        exact ⟨_, _, by rw [HP.out]; rfl, bare_is 17 HA.out (by decide) (by decide), by rw [HP.out]; exact (FP.out.2.1.below ((Below.refl _ _).drew)).weaken (by omega), chain FP.out.2.2 ((Below.refl _ _).drew)⟩
      · have HA : Hid (getErr k s d r l age = 0) := by unfold Hid getErr; rw [if_pos h0, if_pos hk, if_neg (by rw [hl]; exact hn)]
        have hne : ((len : Int) == 0) = false := by simp; omega
        have c0 := P2.out.c0
        have c1 := P2.out.c1
        have c2 := P2.out.c2
        have c3 := P2.out.c3
        have q1 := P2.out.q1
        go_wp2_with fail
        refine Calls.mono (isQueue_any k s d r w2) ?_
        rintro e w3 ⟨rfl, b3⟩
        have D3 := hide (chain D2.out b3)
        have P3 := hide (P2.out.below b3)
        have T3 := hide (T2.out.below b3)
        have hz3 : w2.heap.size ≤ w3.heap.size := b3.size
        clear b3 c0 c1 c2 c3 q0 q1 D2 P2 T2
        obtain ⟨x0, hx0⟩ : ∃ x, l[0]? = some x := ⟨_, List.getElem?_eq_getElem (by rw [hl]; omega)⟩
        have hhd : l.headD ByteArray.empty = x0 := by cases l with | nil => simp at hx0 | cons y t => simpa using hx0
        obtain ⟨b, off, rfl, e1⟩ := (HS.out.below D3.out).cell hx0
        rw [Nat.add_zero] at e1
        have c0 := P3.out.c0
        have c3 := P3.out.c3
        have q0 := P3.out.q0
        have q1 := P3.out.q1
        have hpos : (0 : Int) < (len : Int) := by omega
        have hposn : 0 < len := by omega
        have hposn1 : 1 ≤ len := by omega
        have hb0 : b < w.heap.size := by
          obtain ⟨b', off', e', h'⟩ := HS.out.cell hx0
          simp only [Option.some.injEq, Addr.mk.injEq, and_true] at e'
          obtain ⟨rfl, rfl⟩ := e'
          exact block_lt_of_cell h'
        have hbR : (⟨w.heap.size + 1 + 1, 1, none⟩ : Addr) ≠ ⟨b, off, none⟩ := by intro h; simp only [Addr.mk.injEq] at h; omega
        have hbR' : (⟨w.heap.size + 1 + 1, 0, none⟩ : Addr) ≠ ⟨b, off, none⟩ := by intro h; simp only [Addr.mk.injEq] at h; omega
        have hcap := HS.out.row.fit
        have hcap' : (len : Int) ≤ (cap : Int) := by omega
        have HBR := hide hbR
        have HBR' := hide hbR'
        clear hbR hbR'
        have hpos1 : (1 : Int) ≤ (len : Int) := by omega
        cases hq : kque k
        · have HP : Hid (got k s d r l age = ⟨l, age, x0, decide (age < r)⟩) := by unfold Hid got; rw [if_pos HA.out, if_neg (by rw [hq]; decide), hhd]
          go_wp2_with fail
          go_region_held3 (fun wz => wz.cell? ⟨w.heap.size + 1, 0, none⟩ = some (.slice (some ⟨b, off, none⟩) len cap) ∧ wz.cell? ⟨w.heap.size + 1, 1, none⟩ = some (.int .i64 age) ∧ wz.cell? ⟨w.heap.size, 3, none⟩ = some (.int .i64 r) ∧ wz.cell? ⟨b, off, none⟩ = some (.string x0))
            (first | exact ⟨q0, q1, c3, e1⟩ | (have q := P3.out.below B5.out; exact ⟨q.q0, q.q1, q.c3, cell_below e1 B5.out⟩) | (have q := ((P3.out.below B5.out).far (b' := w.heap.size + 1 + 1) (o := 0) (u := .slice a5 len c5) (by omega) (by omega)).far (b' := w.heap.size + 1 + 1) (o := 1) (u := .int .i64 age) (by omega) (by omega); exact ⟨q.q0, q.q1, q.c3, by rw [World.cell?_setCell_other _ _ _ _ HBR.out, World.cell?_setCell_other _ _ _ _ HBR'.out]; exact cell_below e1 B5.out⟩))
            ((go_at_call 29; refine (copied_any _ len cap l age w3.drew (HS.out.below (chain D3.out ((Below.refl _ _).drew)))).mono ?_; rintro e w5 ⟨v5, rfl, o5, b5⟩; have B5 := hide (undrew b5); obtain ⟨a5, c5, rfl, _⟩ := o5.row; rw [hl] at o5 ⊢; have O5 := hide o5; have T5 := hide (T3.out.below B5.out); have ga := T5.out.c0; have gb := T5.out.c1; have gc := T5.out.f0; have gd := T5.out.f1; clear b5 o5))
          have D5 := hide (chain D3.out B5.out)
          rename_i hheld
          clear hheld q0 q1 c0 c3 e1 P3 B5 D3 T3
          go_wp2
          have FP := hide (fin_port (u := .int .i64 age) T5.out O5.out D5.out (by show _ < w3.heap.size; omega) (by omega))
          generalize (w5.setCell ⟨w.heap.size + 1 + 1, 0, none⟩ (.slice a5 len c5)).setCell ⟨w.heap.size + 1 + 1, 1, none⟩ (.int .i64 age) = W9 at *
          have e0 := FP.out.1.c0
          have e1 := FP.out.1.c1
          (try simp only [Exit.inBlock, Exit.then])
          refine bodyPost_ret (v := .tuple #[.agg #[.slice a5 len c5, .int .i64 age], .string x0, .bool (decide (age < r)), .nilIface]) (by simp [results, Tryd.results17, go_sem, e0, e1]) rfl ?_
          exact ⟨_, _, by rw [HP.out], bare_no HA.out, by rw [HP.out]; exact FP.out.2.1.weaken (by show _ ≤ w3.heap.size; omega), FP.out.2.2⟩
        · have HP : Hid (got k s d r l age = ⟨l.drop 1, 0, x0, true⟩) := by unfold Hid got; rw [if_pos HA.out, if_pos hq, hhd]
          go_wp2_with fail
          have hdl : (l.drop 1).length = len - 1 := by rw [List.length_drop, hl]
          have ST := hide ((HS.out.below (chain D3.out ((Below.refl _ _).drew))).tail (w := w3.drew) hposn1)
          generalize hAd : (if cap = 1 then some (⟨b, off, none⟩ : Addr) else some ⟨b, off + 1, none⟩) = ad at *
          go_region_held3 (fun wz => wz.cell? ⟨w.heap.size + 1, 0, none⟩ = some (.slice (some ⟨b, off, none⟩) len cap) ∧ wz.cell? ⟨b, off, none⟩ = some (.string x0))
            (first | exact ⟨q0, e1⟩ | (have q := P3.out.below B5.out; exact ⟨q.q0, cell_below e1 B5.out⟩) | (have q := ((P3.out.below B5.out).far (b' := w.heap.size + 1 + 1) (o := 0) (u := .slice a5 (len - 1) c5) (by omega) (by omega)).far (b' := w.heap.size + 1 + 1) (o := 1) (u := .int .i64 0) (by omega) (by omega); exact ⟨q.q0, by rw [World.cell?_setCell_other _ _ _ _ HBR.out, World.cell?_setCell_other _ _ _ _ HBR'.out]; exact cell_below e1 B5.out⟩))
            ((go_at_call 35; (try rw [hAd]); refine (clone_any ad (len - 1) (cap - 1) (l.drop 1) w3.drew ST.out).mono ?_; rintro e w5 ⟨v5, rfl, o5, b5⟩; have B5 := hide (undrew b5); obtain ⟨a5, c5, rfl, _⟩ := o5.row; rw [hdl] at o5 ⊢; have O5 := hide o5; have T5 := hide (T3.out.below B5.out); have ga := T5.out.c0; have gb := T5.out.c1; have gc := T5.out.f0; have gd := T5.out.f1; clear b5 o5))
          have D5 := hide (chain D3.out B5.out)
          rename_i hheld
          clear hheld q0 q1 c0 c3 e1 P3 B5 D3 T3 ST
          go_wp2
          have FP := hide (fin_port (u := .int .i64 0) T5.out O5.out D5.out (by show _ < w3.heap.size; omega) (by omega))
          generalize (w5.setCell ⟨w.heap.size + 1 + 1, 0, none⟩ (.slice a5 (len - 1) c5)).setCell ⟨w.heap.size + 1 + 1, 1, none⟩ (.int .i64 0) = W9 at *
          have e0 := FP.out.1.c0
          have e1 := FP.out.1.c1
          (try simp only [Exit.inBlock, Exit.then])
          refine bodyPost_ret (v := .tuple #[.agg #[.slice a5 (len - 1) c5, .int .i64 0], .string x0, .bool true, .nilIface]) (by simp [results, Tryd.results17, go_sem, e0, e1]) rfl ?_
          exact ⟨_, _, by rw [HP.out], bare_no HA.out, by rw [HP.out]; exact FP.out.2.1.weaken (by show _ ≤ w3.heap.size; omega), FP.out.2.2⟩
  · have HA : Hid (getErr k s d r l age = chkErr k s d r l age) := by unfold Hid getErr; rw [if_neg (by omega)]
    have HP : Hid (got k s d r l age = noGot) := by unfold Hid got; rw [if_neg (by rw [HA.out]; omega)]
    have g0 := T1.out.c0
    have g1 := T1.out.c1
    have f0 := T1.out.f0
    have f1 := T1.out.f1
    unfold sent
    go_wp2
    have FP := hide (fin_port (u := .int .i64 0) T1.out (slk_nil w1 W0.heap.size) D1.out (by omega) (by omega))
    generalize (w1.setCell ⟨w.heap.size + 1 + 1, 0, none⟩ (.slice none 0 0)).setCell ⟨w.heap.size + 1 + 1, 1, none⟩ (.int .i64 0) = W9 at *
    have e0 := FP.out.1.c0
    have e1 := FP.out.1.c1
    (try simp only [Exit.inBlock, Exit.then])
    refine bodyPost_ret (v := .tuple #[.agg #[.slice none 0 0, .int .i64 0], .string ByteArray.empty, .bool false, sent (E (chkErr k s d r l age))]) (by simp [results, Tryd.results17, go_sem, e0, e1, sent]; rfl) rfl ?_
    exact ⟨_, _, by rw [HP.out]; rfl, by rw [HA.out]; exact bare_sent E _ h1 h2, by rw [HP.out]; exact FP.out.2.1.weaken (by omega), FP.out.2.2⟩
end Go.Proofs.YtgcodajiehfloaaDoor
