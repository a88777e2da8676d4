/-
  The document's Arrived; SameNotes of lists that are alike.
-/
import Derived.Test.YtnopclacchoijaaDoorXrSend
namespace Go.Proofs.YtnopclacchoijaaDoor
open Go.RowKit FerryCrc
set_option linter.unusedVariables false
set_option linter.unusedSimpArgs false

theorem dueN_nil : ∀ {N : List Nt} {F : List Bool}, N.length = F.length → decide ((dueN N F).length = 0) = !anyN F
  | [], [], _ => rfl
  | n :: N, f :: F, h => by
    have ih := dueN_nil (N := N) (F := F) (by simpa using h)
    cases f with
    | true =>
      rw [show dueN (n :: N) (true :: F) = dueN N F from rfl, ih]
      rfl
    | false =>
      rw [show dueN (n :: N) (false :: F) = n :: dueN N F from rfl]
      rfl
  | [], _ :: _, h => by simp at h
  | _ :: _, [], h => by simp at h
theorem dueL_nil {s : Sd} {F : List Bool} {fn : Nat} (hF : F.length = fn) (h0 : pieE s fn = 0) : decide ((dueL s F).length = 0) = !anyN F := by
  subst hF
  unfold dueL
  refine dueN_nil ?_
  have h1 : cutE s.part s.boot s.peer s.num s.stage s.image.size = 0 ∧ F.length = tot (bytesOf s.image) ∧ 0 ≤ s.rounds := by
    unfold pieE at h0
    split at h0
    · assumption
    · cases h0
  unfold pieL
  rw [if_pos h0, cutN_len]
  exact h1.2.1.symm
set_option maxRecDepth 100000 in
set_option maxHeartbeats 4000000 in
theorem rarrived_any (s : Sd) (fa : Option Addr) (fn fc : Nat) (F : List Bool) {w : World} (him : s.image.size ≤ 140737488351232) (hF : Fls w fa fn fc F) :
    Calls Tryd.prog 13 #[.agg (s.cells (.slice fa fn fc)).toArray] w fun e w' => e = .returned (.tuple #[.bool (decide (pieE s fn = 0) && !anyN F), .int .i64 (pieE s fn : Int)]) ∧ Below w.heap.size w w' := by
  have hFs := hF.size
  have HC1 := hide (fun (w' : World) (h2 : Fls w' fa fn fc F) => rdue_any s fa fn fc F him h2)
  have HN : Hid (pieE s fn = 0 → decide ((dueL s F).length = 0) = !anyN F) := fun h => dueL_nil hFs h
  obtain ⟨R, hR⟩ : ∃ R, pieE s fn = R := ⟨_, rfl⟩
  obtain ⟨D, hD⟩ : ∃ D, dueL s F = D := ⟨_, rfl⟩
  obtain ⟨A, hA⟩ : ∃ A, (!anyN F) = A := ⟨_, rfl⟩
  rw [hR] at HC1 HN ⊢
  rw [hD] at HC1 HN
  rw [hA] at HN ⊢
  clear hR hD hA him
  obtain ⟨pt, b, r, m, st, im, rd⟩ := s
  unfold Sd.cells at *
  simp only at *
  obtain ⟨W, hW, B0, D0⟩ := box1 w [.int .i64 pt, .int .i64 b, .int .i64 r, .int .i64 m, .int .i64 st, .string im, .slice fa fn fc, .int .i64 rd] 26
  have HB0 := hide B0
  have HD := hide D0
  have HWD := hide hW
  have HF := hide (hF.below D0)
  clear B0 D0 hW hF
  go_enter Tryd.func13, Tryd.ntmps13
  go_upto_region 1 with fail
  have hW := HWD.out
  simp only [hW]
  clear hW HWD
  have g0 := HB0.out.cell 0 rfl
  have g1 := HB0.out.cell 1 rfl
  have g2 := HB0.out.cell 2 rfl
  have g3 := HB0.out.cell 3 rfl
  have g4 := HB0.out.cell 4 rfl
  have g5 := HB0.out.cell 5 rfl
  have g6 := HB0.out.cell 6 rfl
  have g7 := HB0.out.cell 7 rfl
  go_wp2_with fail
  refine Calls.mono (HC1.out W HF.out) ?_
  rintro e w1 ⟨v, rfl, o1, b1⟩
  obtain ⟨va, vc, rfl, -⟩ := o1.rcs
  replace HD := hide (chain HD.out b1)
  obtain ⟨n, hn⟩ : ∃ n, D.length = n := ⟨_, rfl⟩
  rw [hn] at HN ⊢
  clear b1 o1 HC1 HF HB0 hn g0 g1 g2 g3 g4 g5 g6 g7
  by_cases h0 : R = 0
  · have HA := hide (HN.out h0)
    subst h0
    clear HN
    by_cases hn : n = 0
    · subst hn
      have ha : A = true := by rw [← HA.out]; rfl
      subst ha
      go_wp2
      go_ret2
      exact ⟨rfl, HD.out⟩
    · have ha : A = false := by rw [← HA.out]; exact decide_eq_false hn
      subst ha
      have e1 : ((n : Int) == 0) = false := by simp; omega
      clear HA hn
      go_wp2
      go_ret2
      exact ⟨rfl, HD.out⟩
  · have e1 : ((R : Int) == 0) = false := by simp; omega
    have hd : decide (R = 0) = false := decide_eq_false h0
    clear h0 HN
    go_wp2
    go_ret2
    exact ⟨by rw [hd]; rfl, HD.out⟩
theorem nt_neq_same (x : Nt) (w : World) : (binOp .neq 34 (.agg #[.int .i64 x.kind, .int .i64 x.part, .int .i64 x.boot, .int .i64 x.peer, .int .i64 x.num, .int .i64 x.stage, .int .i64 x.index, .int .i64 x.total, .int .u32 x.sum, .string x.data]) (.agg #[.int .i64 x.kind, .int .i64 x.part, .int .i64 x.boot, .int .i64 x.peer, .int .i64 x.num, .int .i64 x.stage, .int .i64 x.index, .int .i64 x.total, .int .u32 x.sum, .string x.data])).run Tryd.prog w = .ok (.bool false) w := by
  go_simp
set_option maxRecDepth 100000 in
set_option maxHeartbeats 4000000 in
theorem rsameNotes_any (na ma : Option Addr) (n nc mc : Nat) (N : List Nt) {w : World} (h1 : Nts w na n nc N) (h2 : Nts w ma n mc N) (h32 : n ≤ 4294967296) :
    Calls Tryd.prog 19 #[.slice na n nc, .slice ma n mc] w fun e w' => e = .returned (.bool true) ∧ Below w.heap.size w w' := by
  have hNs := h1.size
  have HA := hide h1
  have HB := hide h2
  clear h1 h2
  have hgt : Tryd.prog.eqGuardType Tryd.prog.depth 34 = false := by kernel_rfl
  go_enter Tryd.func19, Tryd.ntmps19
  go_wp2_with fail
  go_loopw [5] (fun i wr => ∃ k : Nat, k ≤ n ∧ i = .int .i64 (k : Int) ∧ Hid (Below w.heap.size w wr)) (fun i _ => n - (intOf i).toNat)
  case atStart => exact ⟨0, Nat.zero_le _, rfl, Below.refl _ _⟩
  case round =>
    obtain ⟨k, hk, rfl, HBW⟩ := hrel
    by_cases hlt : k < n
    · obtain ⟨x, hx⟩ : ∃ x, N[k]? = some x := ⟨_, List.getElem?_eq_getElem (by omega)⟩
      obtain ⟨b1, o1, rfl, hc1⟩ := (HA.out.below HBW.out).at nt10 (by decide) hx
      obtain ⟨b2, o2, rfl, hc2⟩ := (HB.out.below HBW.out).at nt10 (by decide) hx
      have n0 := hc1 0 _ rfl
      have n1 := hc1 1 _ rfl
      have n2 := hc1 2 _ rfl
      have n3 := hc1 3 _ rfl
      have n4 := hc1 4 _ rfl
      have n5 := hc1 5 _ rfl
      have n6 := hc1 6 _ rfl
      have n7 := hc1 7 _ rfl
      have n8 := hc1 8 _ rfl
      have n9 := hc1 9 _ rfl
      have m0 := hc2 0 _ rfl
      have m1 := hc2 1 _ rfl
      have m2 := hc2 2 _ rfl
      have m3 := hc2 3 _ rfl
      have m4 := hc2 4 _ rfl
      have m5 := hc2 5 _ rfl
      have m6 := hc2 6 _ rfl
      have m7 := hc2 7 _ rfl
      have m8 := hc2 8 _ rfl
      have m9 := hc2 9 _ rfl
      rw [Nat.add_zero] at n0 m0
      have HQ := nt_neq_same x
      have hk1 : (k : Int) < (n : Int) := by omega
      clear hc1 hc2 hx
      go_wp2_with fail
      go_region
      go_wp2
      exact ⟨⟨k + 1, by omega, by simp, HBW.out.drew⟩, by simp [intOf]; omega⟩
    · obtain rfl : k = n := by omega
      have hnk : ¬ (k : Int) < (k : Int) := by omega
      go_wp2
      go_ret
      exact ⟨rfl, HBW.out⟩
end Go.Proofs.YtnopclacchoijaaDoor
