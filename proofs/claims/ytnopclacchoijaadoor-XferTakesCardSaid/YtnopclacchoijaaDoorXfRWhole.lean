/-
  The program's Whole of what has come.
-/
import Derived.Test.YtnopclacchoijaaDoorXfState
namespace Go.Proofs.YtnopclacchoijaaDoor
open Go.RowKit FerryCrc
set_option linter.unusedVariables false
set_option linter.unusedSimpArgs false

set_option maxRecDepth 100000 in
set_option maxHeartbeats 2000000 in
theorem rwhole_any (on : Bool) (pt st tt b r m : Int) (a : Option Addr) (n c : Nat) (P : List ByteArray) {w : World} {E : Nat → Addr} (he : Er7 w E) (hP : Txs w a n c P) (hz : ∀ x ∈ P, x.size ≤ 9223372036854775807) :
    Calls Tryd.prog 33 #[.agg #[.bool on, .int .i64 pt, .int .i64 st, .int .i64 tt, .int .i64 b, .int .i64 r, .int .i64 m, .slice a n c]] w fun e w' => ∃ v n' c', e = .returned (.tuple #[.slice v n' c', .bool (rwF on ⟨pt, st, tt, b, r, m⟩ P), erv E (rwE on ⟨pt, st, tt, b, r, m⟩ P)]) ∧ Bts w' v n' c' (rwB on ⟨pt, st, tt, b, r, m⟩ P) ∧ Below w.heap.size w w' := by
  obtain ⟨S, hS⟩ : ∃ S : Sg, S = ⟨pt, st, tt, b, r, m⟩ := ⟨_, rfl⟩
  have HC1 := hide (fun (w' : World) (h : Txs w' a n c P) => isGood_any on pt st tt b r m a n c P h hz)
  have HC2 := hide (fun (w' : World) (h : Er7 w' E) (hp : Txs w' a n c P) => whole_any pt st tt b r m a n c P h hp hz)
  rw [← hS] at HC1 HC2 ⊢
  obtain ⟨W, hW, B0, D0⟩ := box1 w [.bool on, .int .i64 pt, .int .i64 st, .int .i64 tt, .int .i64 b, .int .i64 r, .int .i64 m, .slice a n c] 78
  have HB0 := hide B0
  have HD := hide D0
  have HWD := hide hW
  have HE := hide (he.below D0)
  have HP := hide (hP.below D0)
  clear B0 D0 hW hS he hP hz
  go_enter Tryd.func33, Tryd.ntmps33
  go_upto_region 1 with fail
  have hW := HWD.out
  clear HWD
  simp only [hW]
  clear hW
  have g0 := HB0.out.cell 0 rfl
  have g1 := HB0.out.cell 1 rfl
  have g2 := HB0.out.cell 2 rfl
  have g3 := HB0.out.cell 3 rfl
  have g4 := HB0.out.cell 4 rfl
  have g5 := HB0.out.cell 5 rfl
  have g6 := HB0.out.cell 6 rfl
  have g7 := HB0.out.cell 7 rfl
  go_wp2_with fail
  refine Calls.mono (HC1.out W HP.out) ?_
  rintro e w1 ⟨rfl, b1⟩
  replace HB0 := hide (HB0.out.below b1)
  replace HD := hide (chain HD.out b1)
  replace HE := hide (HE.out.below b1)
  replace HP := hide (HP.out.below b1)
  clear b1 HC1 g0 g1 g2 g3 g4 g5 g6 g7
  cases hg : rgood on S P with
  | false =>
    have HF : Hid (rwE on S P = 9 ∧ rwF on S P = false ∧ rwB on S P = []) := by
      have h9 : rwF on S P = false := by unfold rwF; rw [hg]; rfl
      refine ⟨?_, h9, ?_⟩
      · unfold rwE; rw [hg]; rfl
      · unfold rwB; rw [h9]; rfl
    have e9 := HE.out.v9
    unfold sent at e9
    go_upto_region 2 with fail
    go_quiet (fail)
    go_wp2
    refine bodyPost_ret (v := .tuple #[.slice none 0 0, .bool false, sent (E 9)]) (by simp [results, Tryd.results33, go_sem, sent]) rfl ?_
    exact ⟨none, 0, 0, by rw [HF.out.1, HF.out.2.1]; rfl, by rw [HF.out.2.2]; exact ⟨rfl, by decide, Nat.le_refl _, fun _ h => by simp at h, fun _ => ⟨rfl, rfl⟩, fun k hk => absurd hk (Nat.not_lt_zero k)⟩, ⟨HD.out.os, HD.out.tape, HD.out.output, HD.out.size, HD.out.block⟩⟩
  | true =>
    have HE0 : Hid (rwE on S P = 0) := by unfold Hid rwE; rw [hg]; rfl
    cases on with
    | false =>
      have HF : Hid (rwF false S P = false ∧ rwB false S P = []) := by
        have h9 : rwF false S P = false := by unfold rwF; rw [hg]; rfl
        exact ⟨h9, by unfold rwB; rw [h9]; rfl⟩
      have g0 := HB0.out.cell 0 rfl
      go_wp2
      refine bodyPost_ret (v := .tuple #[.slice none 0 0, .bool false, .nilIface]) (by simp [results, Tryd.results33, go_sem]) rfl ?_
      exact ⟨none, 0, 0, by rw [HE0.out, HF.out.1]; rfl, by rw [HF.out.2]; exact ⟨rfl, by decide, Nat.le_refl _, fun _ h => by simp at h, fun _ => ⟨rfl, rfl⟩, fun k hk => absurd hk (Nat.not_lt_zero k)⟩, HD.out⟩
    | true =>
      have hgd : goodB S P = true := by
        unfold rgood at hg
        rw [if_pos rfl, Bool.and_eq_true] at hg
        exact hg.1
      have HF : Hid (whE S P = 0 ∧ whF S P = rwF true S P ∧ whB S P = rwB true S P) := by
        have h9 : whF S P = rwF true S P := by unfold whF rwF; rw [hg, hgd]; rfl
        refine ⟨?_, h9, ?_⟩
        · unfold whE; rw [hgd]; rfl
        · unfold whB rwB; rw [h9]
      clear hg hgd
      have g0 := HB0.out.cell 0 rfl
      have g1 := HB0.out.cell 1 rfl
      have g2 := HB0.out.cell 2 rfl
      have g3 := HB0.out.cell 3 rfl
      have g4 := HB0.out.cell 4 rfl
      have g5 := HB0.out.cell 5 rfl
      have g6 := HB0.out.cell 6 rfl
      have g7 := HB0.out.cell 7 rfl
      go_upto_region 5 with fail
      go_wp2_with fail
      refine Calls.mono (HC2.out w1 HE.out HP.out) ?_
      rintro e w2 ⟨v, n', c', rfl, hb, b2⟩
      rw [HF.out.1, HF.out.2.1, show erv E 0 = .nilIface from rfl]
      rw [HF.out.2.2] at hb
      have HBB := hide hb
      have HDD := hide (chain HD.out b2)
      clear hb b2 g0 g1 g2 g3 g4 g5 g6 g7
      obtain ⟨F, hF⟩ : ∃ F, rwF true S P = F := ⟨_, rfl⟩
      have HFF := hide hF
      rw [hF]
      clear hF
      go_wp2
      refine bodyPost_ret (v := .tuple #[.slice v n' c', .bool F, .nilIface]) (by simp [results, Tryd.results33, go_sem]) rfl ?_
      exact ⟨v, n', c', by rw [HE0.out, HFF.out]; rfl, HBB.out, HDD.out⟩
end Go.Proofs.YtnopclacchoijaaDoor
