/-
  The program's Good of a Stage.
-/
import Derived.Test.YtdbciciljeainaaGreatDoorXfKit
namespace Go.Proofs.YtdbciciljeainaaGreatDoor
open Go.RowKit FerryCrc
set_option linter.unusedVariables false
set_option linter.unusedSimpArgs false

theorem list_ne {x : ByteArray} (h : ¬ x.size = 0) : x.toList.isEmpty = false := by
  cases e : x.toList with
  | nil => exact absurd e (toList_ne h)
  | cons a l => rfl
/-- Are the pieces from the i-th on as long as they have to be? -/
def pOk (t : Int) : Nat → List ByteArray → Bool
  | _, [] => true
  | i, x :: l => (decide (x.size = 0) || pieceOk x (i : Int) t) && pOk t (i + 1) l
def goodB (s : Sg) (P : List ByteArray) : Bool := okNm s.part s.boot s.peer s.num && okSt s.stage && okTot s.total && decide ((P.length : Int) = s.total) && pOk s.total 0 P
theorem goodB_open {s : Sg} {P : List ByteArray} (h : goodB s P = true) : okNm s.part s.boot s.peer s.num = true ∧ okSt s.stage = true ∧ 1 ≤ s.total ∧ s.total ≤ 32 ∧ (P.length : Int) = s.total ∧ pOk s.total 0 P = true := by
  unfold goodB at h
  simp only [Bool.and_eq_true, decide_eq_true_eq, okTot_iff] at h
  exact ⟨h.1.1.1.1, h.1.1.1.2, h.1.1.2.1, h.1.1.2.2, h.1.2, h.2⟩

set_option maxRecDepth 100000 in
set_option maxHeartbeats 2000000 in
theorem good_any (s : Sg) (a : Option Addr) (n c : Nat) (P : List ByteArray) {w : World} (hP : Txs w a n c P) (hz : ∀ x ∈ P, x.size ≤ 9223372036854775807) :
    Calls Tryz.prog 16 #[.agg (s.cells (.slice a n c)).toArray] w fun e w' => e = .returned (.bool (goodB s P)) ∧ Below w.heap.size w w' := by
  obtain ⟨pt, st, tt, b, r, m⟩ := s
  obtain ⟨R, hR⟩ : ∃ R, goodB ⟨pt, st, tt, b, r, m⟩ P = R := ⟨_, rfl⟩
  rw [hR]
  have hn := hP.size
  have HR : Hid (R = (okNm pt b r m && okSt st && okTot tt && decide ((n : Int) = tt) && pOk tt 0 P)) := by rw [← hR, ← hn]; rfl
  unfold Sg.cells
  simp only
  obtain ⟨W, hW, B0, D0⟩ := box1 w [.int .i64 pt, .int .i64 st, .int .i64 tt, .int .i64 b, .int .i64 r, .int .i64 m, .slice a n c] 34
  have HB0 := hide B0
  have HD := hide D0
  have HP := hide (hP.below D0)
  have HZ := hide hz
  have HWD := hide hW
  have H1 := hide isName_any
  have H2 := hide isStage_any
  have H3 := hide isTotal_any
  clear hR hP hz B0 D0 hW
  go_enter Tryz.func16, Tryz.ntmps16
  go_upto_region 1 with fail
  have hW := HWD.out
  clear HWD
  simp only [hW]
  clear hW
  have g0 := HB0.out.cell 0 rfl
  have g3 := HB0.out.cell 3 rfl
  have g4 := HB0.out.cell 4 rfl
  have g5 := HB0.out.cell 5 rfl
  go_wp2_with fail
  refine Calls.mono (H1.out pt b r m _) ?_
  rintro e w1 ⟨rfl, b1⟩
  replace HB0 := hide (HB0.out.below b1)
  replace HD := hide (chain HD.out b1)
  replace HP := hide (HP.out.below b1)
  clear b1 g0 g3 g4 g5 H1
  have g1 := HB0.out.cell 1 rfl
  have g2 := HB0.out.cell 2 rfl
  have g6 := HB0.out.cell 6 rfl
  cases h1 : okNm pt b r m with
  | false =>
    rw [h1] at HR
    go_wp2
    go_ret
    exact ⟨ret_b (by rw [HR.out]; rfl), HD.out⟩
  | true =>
    cases h2 : okSt st with
    | false =>
      rw [h1, h2] at HR
      go_wp2_with (refine Calls.mono (H2.out _ _) ?_; rintro e w' ⟨rfl, rfl⟩; rw [h2])
      go_ret
      exact ⟨ret_b (by rw [HR.out]; rfl), HD.out⟩
    | true =>
      cases h3 : okTot tt with
      | false =>
        rw [h1, h2, h3] at HR
        go_wp2_with (first | (go_at_call 31; refine Calls.mono (H2.out _ _) ?_; rintro e w' ⟨rfl, rfl⟩; rw [h2]) | (go_at_call 32; refine Calls.mono (H3.out _ _) ?_; rintro e w' ⟨rfl, rfl⟩; rw [h3]))
        go_ret
        exact ⟨ret_b (by rw [HR.out]; rfl), HD.out⟩
      | true =>
        rw [h1, h2, h3] at HR
        obtain ⟨t1, t2⟩ := okTot_iff.1 h3
        by_cases h4 : (n : Int) = tt
        · subst h4
          have HR2 : Hid (R = pOk (n : Int) 0 P) := by unfold Hid; rw [HR.out]; simp
          have hnn : n ≤ 32 := by omega
          clear HR t1 t2
          go_wp2_with (first | (go_at_call 31; refine Calls.mono (H2.out _ _) ?_; rintro e w' ⟨rfl, rfl⟩; rw [h2]) | (go_at_call 32; refine Calls.mono (H3.out _ _) ?_; rintro e w' ⟨rfl, rfl⟩; rw [h3]))
          clear h1 h2 h3 g1 g2 g6 H2 H3
          go_loopw [34] (fun i wr => ∃ k : Nat, k ≤ n ∧ i = .int .i64 (k : Int) ∧ Hid (R = pOk (n : Int) k (P.drop k)) ∧ Hid (Below w.heap.size w wr) ∧ wr = w') (fun i _ => n - (intOf i).toNat)
          case atStart => exact ⟨0, Nat.zero_le _, rfl, HR2.out, HD.out, rfl⟩
          case round =>
            obtain ⟨k, hk, rfl, HQ, HB, rfl⟩ := hrel
            by_cases hlt : k < n
            · obtain ⟨x, hx⟩ : ∃ x, P[k]? = some x := ⟨_, List.getElem?_eq_getElem (by omega)⟩
              have hxs : x.size ≤ 9223372036854775807 := HZ.out x (List.mem_of_getElem? hx)
              have HX : Hid (R = ((decide (x.size = 0) || pieceOk x (k : Int) (n : Int)) && pOk (n : Int) (k + 1) (P.drop (k + 1)))) := by
                have hkl : k < P.length := by omega
                rw [HQ.out, List.drop_eq_getElem_cons hkl, show P[k] = x by rw [List.getElem?_eq_getElem hkl] at hx; simpa using hx]
                rfl
              obtain ⟨b1, o1, rfl, hc1⟩ := HP.out.at tv1 (by decide) hx
              have n0 := hc1 0 _ rfl
              rw [Nat.mul_one, Nat.add_zero] at n0
              have g2 := HB0.out.cell 2 rfl
              clear hc1 hx
              by_cases h0 : x.size = 0
              · have hxe : x = ⟨#[]⟩ := by
                  obtain ⟨⟨l⟩⟩ := x
                  have : l.length = 0 := h0
                  rw [List.length_eq_zero_iff.1 this]
                subst hxe
                have HX2 : Hid (R = pOk (n : Int) (k + 1) (P.drop (k + 1))) := by rw [HX.out]; rfl
                clear HX h0
                go_wp2
                exact ⟨⟨k + 1, by omega, by simp, HX2.out, HB.out, by first | rfl | trivial⟩, by simp [intOf]; omega⟩
              · have hdt := list_ne h0
                have hpc : Hid (∀ ww : World, Calls Tryz.prog 33 #[.string x, .int .i64 (k : Int), .int .i64 (n : Int)] ww fun e w' => e = .returned (.bool (pieceOk x (k : Int) (n : Int))) ∧ w' = ww) := fun ww => isPiece_any x (k : Int) (n : Int) ww hxs (by omega) (by omega)
                cases h5 : pieceOk x (k : Int) (n : Int) with
                | false =>
                  rw [h5, decide_eq_false h0] at HX
                  go_wp2_with (refine Calls.mono (hpc.out _) ?_; rintro e w' ⟨rfl, rfl⟩; rw [h5])
                  go_ret
                  exact ⟨ret_b (by rw [HX.out]; rfl), HB.out⟩
                | true =>
                  rw [h5, decide_eq_false h0] at HX
                  go_wp2_with (refine Calls.mono (hpc.out _) ?_; rintro e w' ⟨rfl, rfl⟩; rw [h5])
                  exact ⟨⟨k + 1, by omega, by simp, by rw [HX.out]; rfl, HB.out, by first | rfl | trivial⟩, by simp [intOf]; omega⟩
            · obtain rfl : k = n := by omega
              go_wp2
              go_ret
              exact ⟨ret_b (by rw [HQ.out, List.drop_of_length_le (by omega)]; rfl), HB.out⟩
        · have h5 : ((n : Int) == tt) = false := by simpa using h4
          have h6 : decide ((n : Int) = tt) = false := by simpa using h4
          rw [h6] at HR
          clear h4
          go_wp2_with (first | (go_at_call 31; refine Calls.mono (H2.out _ _) ?_; rintro e w' ⟨rfl, rfl⟩; rw [h2]) | (go_at_call 32; refine Calls.mono (H3.out _ _) ?_; rintro e w' ⟨rfl, rfl⟩; rw [h3]))
          go_ret
          exact ⟨ret_b (by rw [HR.out]; rfl), HD.out⟩
end Go.Proofs.YtdbciciljeainaaGreatDoor
