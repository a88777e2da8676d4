/-
  What a process reads: the document's Get; a port out emptied: Drain on both sides.
-/
import Derived.Test.YtpfmccgiijbcjaaDoorRPtGet
import Derived.Test.YtpfmccgiijbcjaaDoorRPtRAdd
namespace Go.Proofs.YtpfmccgiijbcjaaDoorR
open Go.RowKit
set_option linter.unusedVariables false
set_option linter.unusedSimpArgs false

theorem sts_nil (w : World) : Sts w none 0 0 [] := ⟨rfl, by decide, fun x hx => by simp at hx, rfl, by decide, fun _ => ⟨rfl, rfl⟩, fun j v hv => by simp at hv⟩
set_option maxRecDepth 100000 in
set_option maxHeartbeats 4000000 in
theorem refGet_any {w : World} (k s d r age : Int) (a : Option Addr) (len cap : Nat) (l : List ByteArray) (hs : Sts w a len cap l) :
    Calls Tryd.prog 27 #[.agg #[.int .i64 k, .int .i64 s, .int .i64 d, .int .i64 r], .agg #[.slice a len cap, .int .i64 age]] w fun e w' => ∃ x, e = .returned (.tuple #[.agg #[x, .int .i64 (got k s d r l age).age], .string (got k s d r l age).text, .bool (got k s d r l age).fresh, .int .i64 (getErr k s d r l age : Int)]) ∧ SLk w' w.heap.size x (got k s d r l age).list ∧ Below w.heap.size w w' := by
  have HS := hide hs
  have hl := hs.size
  have hm := hs.most
  have PQ := hide (pqr_pq w k s d r (.slice a len cap) age (.slice none 0 0) (.int .i64 0))
  have B0 := hide (pqr_below w k s d r (.slice a len cap) age (.slice none 0 0) (.int .i64 0))
  have T0 := hide (pqr_two w k s d r (.slice a len cap) age (.slice none 0 0) (.int .i64 0))
  have hz := pqr_size w k s d r (.slice a len cap) age (.slice none 0 0) (.int .i64 0)
  clear hs
  go_enter Tryd.func27, Tryd.ntmps27
  go_wp2_with fail
  generalize ((w.alloc (.cells #[.int .i64 k, .int .i64 s, .int .i64 d, .int .i64 r] 23)).alloc (.cells #[.slice a len cap, .int .i64 age] 26)).alloc (.cells #[.slice none 0 0, .int .i64 0] 26) = W0 at *
  refine Calls.mono (refCheck_any k s d r age a len cap l (HS.out.below B0.out)) ?_
  rintro e w1 ⟨rfl, b1⟩
  have D1 := hide (chain B0.out b1)
  have P1 := hide (PQ.out.below b1)
  have T1 := hide (T0.out.below b1)
  have hz1 : W0.heap.size ≤ w1.heap.size := b1.size
  clear b1 PQ B0 T0
  by_cases h0 : chkErr k s d r l age = 0
  · have hp := pe_is k s d r
    have hp0 := (chk0 h0).1
    have h2 := (chk0 h0).2
    unfold fitB at h2
    simp only [Bool.and_eq_true, decide_eq_true_eq] at h2
    have hkr : 1 ≤ k ∧ k ≤ 4 := by omega
    have hk1d : k = 1 → len ≤ 1 := fun e => by omega
    clear hp hp0 h2
    have c0 := P1.out.c0
    have c1 := P1.out.c1
    have c2 := P1.out.c2
    have c3 := P1.out.c3
    rw [h0]
    go_wp2_with fail
    refine Calls.mono (refIsIn_any k s d r w1) ?_
    rintro e w2 ⟨rfl, b2⟩
    have D2 := hide (chain D1.out b2)
    have P2 := hide (P1.out.below b2)
    have T2 := hide (T1.out.below b2)
    have hz2 : w1.heap.size ≤ w2.heap.size := b2.size
    clear b2 c0 c1 c2 c3 D1 P1 T1
    have g0 := T2.out.c0
    have g1 := T2.out.c1
    have f0 := T2.out.f0
    have f1 := T2.out.f1
    cases hk : kin k
    · have HA : Hid (getErr k s d r l age = 7) := by unfold Hid getErr; rw [if_pos h0, if_neg (by rw [hk]; decide)]
      have HP : Hid (got k s d r l age = noGot) := by unfold Hid got; rw [if_neg (by rw [HA.out]; decide)]
      go_wp2
      have FP := hide (fin_port (u := .int .i64 0) T2.out (slk_nil w2 W0.heap.size) D2.out (by omega) (by omega))
      generalize (w2.setCell ⟨w.heap.size + 1 + 1, 0, none⟩ (.slice none 0 0)).setCell ⟨w.heap.size + 1 + 1, 1, none⟩ (.int .i64 0) = W9 at *
      have e0 := FP.out.1.c0
      have e1 := FP.out.1.c1
      (try simp only [Exit.inBlock, Exit.then])
      refine bodyPost_ret (v := .tuple #[.agg #[.slice none 0 0, .int .i64 0], .string ByteArray.empty, .bool false, .int .i64 7]) (by simp [results, Tryd.results27, go_sem, e0, e1]; try rfl) rfl ?_
      exact ⟨_, by rw [HP.out, HA.out]; rfl, by rw [HP.out]; exact FP.out.2.1.weaken (by omega), FP.out.2.2⟩
    · have q0 := P2.out.q0
      by_cases hn : len = 0
      · have HA : Hid (getErr k s d r l age = 17) := by unfold Hid getErr; rw [if_pos h0, if_pos hk, if_pos (by rw [hl]; exact hn)]
        have HP : Hid (got k s d r l age = noGot) := by unfold Hid got; rw [if_neg (by rw [HA.out]; decide)]
        subst hn
        go_wp2
        have FP := hide (fin_port (u := .int .i64 0) T2.out (slk_nil w2 W0.heap.size) D2.out (by omega) (by omega))
        generalize (w2.setCell ⟨w.heap.size + 1 + 1, 0, none⟩ (.slice none 0 0)).setCell ⟨w.heap.size + 1 + 1, 1, none⟩ (.int .i64 0) = W9 at *
        have e0 := FP.out.1.c0
        have e1 := FP.out.1.c1
        (try simp only [Exit.inBlock, Exit.then])
        refine bodyPost_ret (v := .tuple #[.agg #[.slice none 0 0, .int .i64 0], .string ByteArray.empty, .bool false, .int .i64 17]) (by simp [results, Tryd.results27, go_sem, e0, e1]; try rfl) rfl ?_
        exact ⟨_, by rw [HP.out, HA.out]; rfl, by rw [HP.out]; exact FP.out.2.1.weaken (by omega), FP.out.2.2⟩
      · have HA : Hid (getErr k s d r l age = 0) := by unfold Hid getErr; rw [if_pos h0, if_pos hk, if_neg (by rw [hl]; exact hn)]
        have hne : ((len : Int) == 0) = false := by simp; omega
        obtain ⟨x0, hx0⟩ : ∃ x, l[0]? = some x := ⟨_, List.getElem?_eq_getElem (by rw [hl]; omega)⟩
        have hhd : l.headD ByteArray.empty = x0 := by cases l with | nil => simp at hx0 | cons y t => simpa using hx0
        obtain ⟨b, off, rfl, e1⟩ := (HS.out.below D2.out).cell hx0
        rw [Nat.add_zero] at e1
        have c0 := P2.out.c0
        have c3 := P2.out.c3
        have q1 := P2.out.q1
        have hposn : 0 < len := by omega
        have hposn1 : 1 ≤ len := by omega
        have hpos1 : (1 : Int) ≤ (len : Int) := by omega
        have hcap := HS.out.row.fit
        have hcap' : (len : Int) ≤ (cap : Int) := by omega
        have hb0 : b < w.heap.size := by
          obtain ⟨b', off', e', h'⟩ := HS.out.cell hx0
          simp only [Option.some.injEq, Addr.mk.injEq, and_true] at e'
          obtain ⟨rfl, rfl⟩ := e'
          exact block_lt_of_cell h'
        have HBR : Hid ((⟨w.heap.size + 1 + 1, 1, none⟩ : Addr) ≠ ⟨b, off, none⟩) := by intro h; simp only [Addr.mk.injEq] at h; omega
        have HBR' : Hid ((⟨w.heap.size + 1 + 1, 0, none⟩ : Addr) ≠ ⟨b, off, none⟩) := by intro h; simp only [Addr.mk.injEq] at h; omega
        by_cases k1 : k = 1
        · have hlx : l = [x0] := by
            cases l with
            | nil => simp at hx0
            | cons y t =>
              simp at hx0
              subst hx0
              have : t = [] := List.length_eq_zero_iff.1 (by have := hk1d k1; simp at hl; omega)
              rw [this]
          have hkq : kque k = false := by unfold kque; simp [k1]
          have HP : Hid (got k s d r l age = ⟨l, age, x0, decide (age < r)⟩) := by unfold Hid got; rw [if_pos HA.out, if_neg (by rw [hkq]; decide), hhd]
          have ek : (k == 1) = true := by simp [k1]
          clear k1 hk1d
          go_wp2_with fail
          go_region_held3 (fun wz => wz.cell? ⟨w.heap.size + 1, 0, none⟩ = some (.slice (some ⟨b, off, none⟩) len cap) ∧ wz.cell? ⟨w.heap.size + 1, 1, none⟩ = some (.int .i64 age) ∧ wz.cell? ⟨w.heap.size, 3, none⟩ = some (.int .i64 r) ∧ wz.cell? ⟨b, off, none⟩ = some (.string x0))
            (first | exact ⟨q0, q1, c3, e1⟩ | (have q := P2.out.below B5.out; exact ⟨q.q0, q.q1, q.c3, cell_below e1 B5.out⟩) | (have q := ((P2.out.below B5.out).far (b' := w.heap.size + 1 + 1) (o := 0) (u := .slice a5 len c5) (by omega) (by omega)).far (b' := w.heap.size + 1 + 1) (o := 1) (u := .int .i64 age) (by omega) (by omega); exact ⟨q.q0, q.q1, q.c3, by rw [World.cell?_setCell_other _ _ _ _ HBR.out, World.cell?_setCell_other _ _ _ _ HBR'.out]; exact cell_below e1 B5.out⟩))
            ((go_at_call 54; refine (refWith_any none 0 0 [] x0 w2.drew (sts_nil _)).mono ?_; rintro e w5 ⟨v5, rfl, o5, b5⟩; have B5 := hide (undrew b5); rw [List.nil_append, ← hlx] at o5; obtain ⟨a5, c5, rfl, _⟩ := o5.row; rw [hl] at o5 ⊢; have O5 := hide o5; have T5 := hide (T2.out.below B5.out); have ga := T5.out.c0; have gb := T5.out.c1; have gc := T5.out.f0; have gd := T5.out.f1; clear b5 o5))
          have D5 := hide (chain D2.out B5.out)
          rename_i hheld
          clear hheld q0 q1 c0 c3 e1 P2 B5 D2 T2 g0 g1 f0 f1
          go_wp2
          have FP := hide (fin_port (u := .int .i64 age) T5.out O5.out D5.out (by show _ < w2.heap.size; omega) (by omega))
          generalize (w5.setCell ⟨w.heap.size + 1 + 1, 0, none⟩ (.slice a5 len c5)).setCell ⟨w.heap.size + 1 + 1, 1, none⟩ (.int .i64 age) = W9 at *
          have e0 := FP.out.1.c0
          have e1 := FP.out.1.c1
          (try simp only [Exit.inBlock, Exit.then])
          refine bodyPost_ret (v := .tuple #[.agg #[.slice a5 len c5, .int .i64 age], .string x0, .bool (decide (age < r)), .int .i64 0]) (by simp [results, Tryd.results27, go_sem, e0, e1]; try rfl) rfl ?_
          exact ⟨_, by rw [HP.out, HA.out]; rfl, by rw [HP.out]; exact FP.out.2.1.weaken (by show _ ≤ w2.heap.size; omega), FP.out.2.2⟩
        · have ek : (k == 1) = false := by simp [k1]
          have hkq : kque k = true := by unfold kin at hk; unfold kque; simp at hk ⊢; omega
          have HP : Hid (got k s d r l age = ⟨l.drop 1, 0, x0, true⟩) := by unfold Hid got; rw [if_pos HA.out, if_pos hkq, hhd]
          clear k1 hk1d
          have hdl : (l.drop 1).length = len - 1 := by rw [List.length_drop, hl]
          have ST := hide ((HS.out.below (chain D2.out (newd_below w2 (.cells #[] 9)))).tail hposn1)
          have hdm : (l.drop 1).length ≤ 8796093022208 := by rw [hdl]; omega
          generalize hAd : (if cap = 1 then some (⟨b, off, none⟩ : Addr) else some ⟨b, off + 1, none⟩) = ad at *
          go_wp2_with fail
          go_region_held3 (fun wz => wz.cell? ⟨w.heap.size + 1, 0, none⟩ = some (.slice (some ⟨b, off, none⟩) len cap) ∧ wz.cell? ⟨b, off, none⟩ = some (.string x0))
            (first | exact ⟨q0, e1⟩ | exact ⟨cell_below q0 (newd_below _ _), cell_below e1 (newd_below _ _)⟩ | (have q := P2.out.below B5.out; exact ⟨q.q0, cell_below e1 B5.out⟩) | (have q := ((P2.out.below B5.out).far (b' := w.heap.size + 1 + 1) (o := 0) (u := .slice a5 (len - 1) c5) (by omega) (by omega)).far (b' := w.heap.size + 1 + 1) (o := 1) (u := .int .i64 0) (by omega) (by omega); exact ⟨q.q0, by rw [World.cell?_setCell_other _ _ _ _ HBR.out, World.cell?_setCell_other _ _ _ _ HBR'.out]; exact cell_below e1 B5.out⟩))
            ((refine step_sts (by rfl) (.tmp 45) (.tmp 48) (by rfl) w2.heap.size (.slice (some ⟨w2.heap.size, 0, none⟩) 0 0) [] (by simp [Act.eval, Act.put]) (slk_mt _ _ _) ad (len - 1) (cap - 1) (l.drop 1) (by simp [Act.eval, Act.put, hAd]) hdl ST.out.row (by simp; omega) (newd_below w2 (.cells #[] 9)).size ?_; intro v5 w5 h5 b5; have B5 : Hid (Below w2.heap.size w2 w5) := (newd_below w2 (.cells #[] 9)).trans b5; rw [List.nil_append] at h5; obtain ⟨a5, c5, rfl, _⟩ := h5.row; rw [hdl] at h5 ⊢; have O5 := hide h5; have T5 := hide (T2.out.below B5.out); have ga := T5.out.c0; have gb := T5.out.c1; have gc := T5.out.f0; have gd := T5.out.f1; clear h5 b5))
          have D5 := hide (chain D2.out B5.out)
          rename_i hheld
          clear hheld q0 q1 c0 c3 e1 P2 B5 D2 T2 g0 g1 f0 f1 ST
          go_wp2
          have FP := hide (fin_port (u := .int .i64 0) T5.out O5.out D5.out (by show _ < w2.heap.size; omega) (by omega))
          generalize (w5.setCell ⟨w.heap.size + 1 + 1, 0, none⟩ (.slice a5 (len - 1) c5)).setCell ⟨w.heap.size + 1 + 1, 1, none⟩ (.int .i64 0) = W9 at *
          have e0 := FP.out.1.c0
          have e1 := FP.out.1.c1
          (try simp only [Exit.inBlock, Exit.then])
          refine bodyPost_ret (v := .tuple #[.agg #[.slice a5 (len - 1) c5, .int .i64 0], .string x0, .bool true, .int .i64 0]) (by simp [results, Tryd.results27, go_sem, e0, e1]; try rfl) rfl ?_
          exact ⟨_, by rw [HP.out, HA.out]; rfl, by rw [HP.out]; exact FP.out.2.1.weaken (by show _ ≤ w2.heap.size; omega), FP.out.2.2⟩
  · have HA : Hid (getErr k s d r l age = chkErr k s d r l age) := by unfold Hid getErr; rw [if_neg h0]
    have HP : Hid (got k s d r l age = noGot) := by unfold Hid got; rw [if_neg (by rw [HA.out]; exact h0)]
    have g0 := T1.out.c0
    have g1 := T1.out.c1
    have f0 := T1.out.f0
    have f1 := T1.out.f1
    have hne : ((chkErr k s d r l age : Int) != 0) = true := by simp; omega
    generalize hP : chkErr k s d r l age = P at *
    clear h0
    go_wp2
    have FP := hide (fin_port (u := .int .i64 0) T1.out (slk_nil w1 W0.heap.size) D1.out (by omega) (by omega))
    generalize (w1.setCell ⟨w.heap.size + 1 + 1, 0, none⟩ (.slice none 0 0)).setCell ⟨w.heap.size + 1 + 1, 1, none⟩ (.int .i64 0) = W9 at *
    have e0 := FP.out.1.c0
    have e1 := FP.out.1.c1
    (try simp only [Exit.inBlock, Exit.then])
    refine bodyPost_ret (v := .tuple #[.agg #[.slice none 0 0, .int .i64 0], .string ByteArray.empty, .bool false, .int .i64 (P : Int)]) (by simp [results, Tryd.results27, go_sem, e0, e1]; try rfl) rfl ?_
    exact ⟨_, by rw [HP.out, HA.out]; rfl, by rw [HP.out]; exact FP.out.2.1.weaken (by omega), FP.out.2.2⟩
end Go.Proofs.YtpfmccgiijbcjaaDoorR
