/-
  The program's Good, Arrived and Round of what is sent.
-/
import Derived.Test.YtnopclacchoijaaDoorXfClone
namespace Go.Proofs.YtnopclacchoijaaDoor
open Go.RowKit FerryCrc
set_option linter.unusedVariables false
set_option linter.unusedSimpArgs false

set_option maxRecDepth 100000 in
set_option maxHeartbeats 1000000 in
theorem xgood_any (s : Sd) (fa : Option Addr) (fn fc : Nat) {w : World} {E : Nat → Addr} (he : Er7 w E) (him : s.image.size ≤ 140737488351232) :
    Calls Tryd.prog 14 #[.agg (s.cells (.slice fa fn fc)).toArray] w fun e w' => e = .returned (.bool (decide (pieE s fn = 0))) ∧ Below w.heap.size w w' := by
  have HC1 := hide (fun (w' : World) (h : Er7 w' E) => pieces_any s fa fn fc h him)
  obtain ⟨R, hR⟩ : ∃ R, pieE s fn = R := ⟨_, rfl⟩
  rw [hR] at HC1 ⊢
  obtain ⟨pt, b, r, m, st, im, rd⟩ := s
  unfold Sd.cells at *
  simp only at *
  obtain ⟨W, hW, B0, D0⟩ := box1 w [.int .i64 pt, .int .i64 b, .int .i64 r, .int .i64 m, .int .i64 st, .string im, .slice fa fn fc, .int .i64 rd] 48
  have HB0 := hide B0
  have HD := hide D0
  have HWD := hide hW
  have HE := hide (he.below D0)
  clear B0 D0 hW he him hR
  go_enter Tryd.func14, Tryd.ntmps14
  go_upto_region 1 with fail
  have hW := HWD.out
  simp only [hW]
  clear hW HWD
  have g0 := HB0.out.cell 0 rfl
  have g1 := HB0.out.cell 1 rfl
  have g2 := HB0.out.cell 2 rfl
  have g3 := HB0.out.cell 3 rfl
  have g4 := HB0.out.cell 4 rfl
  have g5 := HB0.out.cell 5 rfl
  have g6 := HB0.out.cell 6 rfl
  have g7 := HB0.out.cell 7 rfl
  go_wp2_with fail
  refine Calls.mono (HC1.out W HE.out) ?_
  rintro e w1 ⟨v, rfl, o1, b1⟩
  have HD1 := hide (chain HD.out b1)
  clear b1 o1
  by_cases h0 : R = 0
  · subst h0
    rw [show erv E 0 = .nilIface from rfl]
    go_wp2
    go_ret
    exact ⟨rfl, HD1.out⟩
  · rw [show erv E R = sent (E R) from if_neg h0]
    unfold sent
    have hd : decide (R = 0) = false := decide_eq_false h0
    clear h0
    go_wp2
    go_ret
    exact ⟨ret_b hd.symm, HD1.out⟩
/-- Is one of the truths false? -/
def anyN (F : List Bool) : Bool := F.any (fun y => !y)
theorem anyb_step {p : Bool → Bool} {P : List Bool} {k : Nat} {x : Bool} (hx : P[k]? = some x) : (P.drop k).any p = (p x || (P.drop (k + 1)).any p) := by
  have hkl := (List.getElem?_eq_some_iff.1 hx).1
  rw [List.drop_eq_getElem_cons hkl, show P[k] = x by rw [List.getElem?_eq_getElem hkl] at hx; simpa using hx, List.any_cons]
set_option maxRecDepth 100000 in
set_option maxHeartbeats 1000000 in
theorem index_fl {w : World} (a : Option Addr) (n c : Nat) (P : List Bool) (hs : Fls w a n c P) (hn32 : n ≤ 4294967296) :
    Calls Tryd.prog 70 #[.slice a n c, .bool false] w fun e w' => ∃ r : Int, e = .returned (.int .i64 r) ∧ decide (0 ≤ r) = anyN P ∧ w' = w := by
  have hn := hs.size
  have HP := hide hs
  obtain ⟨R, hR⟩ : ∃ R, anyN P = R := ⟨_, rfl⟩
  rw [hR]
  have HR : Hid (R = (P.drop 0).any (fun y => !y)) := by rw [← hR]; rfl
  clear hs hR
  go_enter Tryd.func70, Tryd.ntmps70
  go_wp2_with fail
  go_loopw [8] (fun i wr => ∃ k : Nat, k ≤ n ∧ i = .int .i64 (k : Int) ∧ Hid (R = (P.drop k).any (fun y => !y)) ∧ wr = w) (fun i _ => n - (intOf i).toNat)
  case atStart => exact ⟨0, Nat.zero_le _, rfl, HR.out, rfl⟩
  case round =>
    obtain ⟨k, hk, rfl, HQ, rfl⟩ := hrel
    by_cases hlt : k < n
    · obtain ⟨x, hx⟩ : ∃ x, P[k]? = some x := ⟨_, List.getElem?_eq_getElem (by omega)⟩
      have HX := HQ.out
      rw [anyb_step hx] at HX
      replace HX := hide HX
      obtain ⟨b1, o1, rfl, hc1⟩ := HP.out.at bvl1 (by decide) hx
      have n0 := hc1 0 _ rfl
      rw [Nat.mul_one, Nat.add_zero] at n0
      clear hc1 hx HQ
      cases x with
      | false =>
        go_wp2
        go_ret
        exact ⟨_, rfl, by rw [HX.out]; simp, rfl⟩
      | true =>
        go_wp2
        exact ⟨⟨k + 1, by omega, by simp, HX.out, by first | rfl | trivial⟩, by simp [intOf]; omega⟩
    · obtain rfl : k = n := by omega
      go_wp2
      go_ret
      exact ⟨_, rfl, by rw [HQ.out, List.drop_of_length_le (by omega)]; rfl, rfl⟩
set_option maxRecDepth 100000 in
theorem contains_fl {w : World} (a : Option Addr) (n c : Nat) (P : List Bool) (hs : Fls w a n c P) (hn32 : n ≤ 4294967296) :
    Calls Tryd.prog 47 #[.slice a n c, .bool false] w fun e w' => e = .returned (.bool (anyN P)) ∧ w' = w := by
  have H1 := hide (index_fl a n c P hs hn32)
  clear hs
  go_enter Tryd.func47, Tryd.ntmps47
  go_wp2_with fail
  refine Calls.mono H1.out ?_
  rintro e w' ⟨r, rfl, hr, rfl⟩
  have HR := hide hr
  clear hr
  go_wp2
  all_goals go_ret
  all_goals refine ⟨ret_b ?_, rfl⟩
  all_goals (rw [← HR.out]; try simp_all)
theorem pieE_fn {s : Sd} {fn : Nat} (h : pieE s fn = 0) : fn ≤ 32 := by
  unfold pieE at h
  split at h
  · rename_i h1
    have h2 := (cutE_ok h1.1).2
    rw [h1.2.1]
    unfold tot
    rw [bytesOf_len]
    omega
  · cases h
set_option maxRecDepth 100000 in
set_option maxHeartbeats 1000000 in
theorem arrived_any (s : Sd) (fa : Option Addr) (fn fc : Nat) (F : List Bool) {w : World} {E : Nat → Addr} (he : Er7 w E) (him : s.image.size ≤ 140737488351232) (hF : Fls w fa fn fc F) :
    Calls Tryd.prog 24 #[.agg (s.cells (.slice fa fn fc)).toArray] w fun e w' => e = .returned (.tuple #[.bool (decide (pieE s fn = 0) && !anyN F), erv E (pieE s fn)]) ∧ Below w.heap.size w w' := by
  have HC1 := hide (fun (w' : World) (h : Er7 w' E) => xgood_any s fa fn fc h him)
  have HFN : Hid (pieE s fn = 0 → fn ≤ 32) := fun h => pieE_fn h
  have HPE : Hid (pieE s fn = 0 ∨ pieE s fn = 9) := by unfold Hid pieE; split <;> simp
  obtain ⟨R, hR⟩ : ∃ R, pieE s fn = R := ⟨_, rfl⟩
  rw [hR] at HC1 HFN HPE ⊢
  obtain ⟨pt, b, r, m, st, im, rd⟩ := s
  unfold Sd.cells at *
  simp only at *
  obtain ⟨W, hW, B0, D0⟩ := box1 w [.int .i64 pt, .int .i64 b, .int .i64 r, .int .i64 m, .int .i64 st, .string im, .slice fa fn fc, .int .i64 rd] 48
  have HB0 := hide B0
  have HD := hide D0
  have HWD := hide hW
  have HE := hide (he.below D0)
  have HF := hide (hF.below D0)
  clear B0 D0 hW he him hR hF
  go_enter Tryd.func24, Tryd.ntmps24
  go_upto_region 1 with fail
  have hW := HWD.out
  simp only [hW]
  clear hW HWD
  have g0 := HB0.out.cell 0 rfl
  have g1 := HB0.out.cell 1 rfl
  have g2 := HB0.out.cell 2 rfl
  have g3 := HB0.out.cell 3 rfl
  have g4 := HB0.out.cell 4 rfl
  have g5 := HB0.out.cell 5 rfl
  have g6 := HB0.out.cell 6 rfl
  have g7 := HB0.out.cell 7 rfl
  go_wp2_with fail
  refine Calls.mono (HC1.out W HE.out) ?_
  rintro e w1 ⟨rfl, b1⟩
  replace HB0 := hide (HB0.out.below b1)
  replace HD := hide (chain HD.out b1)
  replace HE := hide (HE.out.below b1)
  replace HF := hide (HF.out.below b1)
  clear b1 HC1 g0 g1 g2 g3 g4 g5 g6 g7
  by_cases h0 : R = 0
  · have hfn := HFN.out h0
    subst h0
    have HCT := hide (fun (w' : World) (h : Fls w' fa fn fc F) => contains_fl fa fn fc F h (by omega))
    rw [show decide ((0 : Nat) = 0) = true from rfl]
    have g6 := HB0.out.cell 6 rfl
    go_upto_region 3 with fail
    go_wp2_with fail
    refine Calls.mono (HCT.out _ HF.out) ?_
    rintro e w2 ⟨rfl, rfl⟩
    go_wp2
    go_ret2
    exact ⟨rfl, HD.out⟩
  · have hd : decide (R = 0) = false := decide_eq_false h0
    obtain rfl : R = 9 := by
      rcases HPE.out with h | h
      · exact absurd h h0
      · exact h
    rw [hd]
    have e9 := HE.out.v9
    unfold sent at e9
    clear h0 hd
    go_upto_region 2 with fail
    go_quiet (fail)
    go_wp2
    go_ret2
    exact ⟨rfl, ⟨HD.out.os, HD.out.tape, HD.out.output, HD.out.size, HD.out.block⟩⟩
end Go.Proofs.YtnopclacchoijaaDoor
