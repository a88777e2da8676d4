/-
  ferrylaw04.IsaNames.
-/
import Derived.Test.YthcmeboepedelaaDoorIaRName
namespace Go.Proofs.YthcmeboepedelaaDoor.isaNames
open Go.Proofs.YthcmeboepedelaaDoor Go.RowKit FerryCrc
set_option linter.unusedVariables false
set_option linter.unusedSimpArgs false
theorem num_name : ∀ k : Nat, k < 65 → form (k : Int) ≠ 0 → numN (nameT k) = k := by decide +kernel
theorem num_nameI {op : Int} (h : form op ≠ 0) : (numN (nameI op) : Int) = op := by
  obtain ⟨o1, o2⟩ := form_one h
  obtain ⟨k, rfl⟩ := Int.eq_ofNat_of_zero_le (by omega : 0 ≤ op)
  unfold nameI
  rw [if_pos (by omega)]
  show ((numN (nameT k) : Nat) : Int) = k
  rw [num_name k (by omega) h]
/-- How many instructions there are ahead of number i - 1. -/
def cntF : Nat → Nat
  | 0 => 0
  | i + 1 => if form ((i : Int) - 1) = 0 then cntF i else cntF i + 1
theorem cnt_all : cntF 302 = 35 := by decide +kernel
theorem cnt_le : ∀ i : Nat, cntF i ≤ i
  | 0 => Nat.le_refl _
  | i + 1 => by
    have := cnt_le i
    unfold cntF
    split <;> omega
set_option maxRecDepth 100000 in
set_option maxHeartbeats 4000000 in
theorem law (w : World) (hE : Isv w ∧ Iat w) : Calls Tryd.prog 3 #[] w fun e w' => e = .returned (.bool true) ∧ Below w.heap.size w w' := by
  obtain ⟨hv, ht⟩ := hE
  have HF := hide (fixed_any w ht hv)
  have HT := hide (fun (w' : World) (b : Below w.heap.size w w') => ht.below b)
  clear ht hv
  go_enter Tryd.func3, Tryd.ntmps3
  go_wp2_with fail
  refine Calls.mono HF.out ?_
  rintro e w1 ⟨rfl, b⟩
  have HB := hide b
  clear b HF
  go_upto_region 5 with fail
  go_loopw [1, 2] (fun x y wr => ∃ i : Nat, i ≤ 302 ∧ y = .int .i64 ((i : Int) - 1) ∧ x = .int .i64 ((cntF i : Nat) : Int) ∧ w1 = wr) (fun _ y _ => 303 - (intOf y + 1).toNat)
  case atStart => exact ⟨0, Nat.zero_le _, rfl, rfl, rfl⟩
  case round =>
  obtain ⟨i, hi, rfl, rfl, rfl⟩ := hrel
  by_cases hlt : i < 302
  · as_aux_lemma =>
    obtain ⟨op, hop⟩ : ∃ z, (i : Int) - 1 = z := ⟨_, rfl⟩
    have HFO := hide (form_any op w1)
    have HRO := hide (rform_any op w1)
    have HNO := hide (Name_any op w1 (HT.out w1 HB.out))
    have HRN := hide (rName_any op w1)
    have HNU := hide (Number_any (nameI op) w1 (HT.out w1 HB.out))
    have g1 : op ≤ 300 := by omega
    have hw : IntKind.i64.wrap (op + 1) = op + 1 := by rw [IntKind.wrap_i64]; omega
    have hc := cnt_le i
    have hw2 : IntKind.i64.wrap (((cntF i : Nat) : Int) + 1) = ((cntF i : Nat) : Int) + 1 := by rw [IntKind.wrap_i64]; omega
    have hc1 : cntF (i + 1) = if form op = 0 then cntF i else cntF i + 1 := by rw [← hop]; rfl
    by_cases h0 : form op = 0
    · rw [if_pos h0] at hc1
      have HC1 := hide hc1
      have HOP := hide hop
      rw [h0] at HFO HRO
      rw [hop]
      generalize nameI op = nm at *
      generalize numN nm = nn at *
      generalize cntF i = cc at *
      clear h0 hc1 hop
      go_wp2_with fail
      refine Calls.mono HFO.out ?_
      rintro e w' ⟨rfl, rfl⟩
      go_wp2_with fail
      refine Calls.mono HRO.out ?_
      rintro e w' ⟨rfl, rfl⟩
      go_wp2_with fail
      refine Calls.mono HNO.out ?_
      rintro e w' ⟨rfl, rfl⟩
      go_wp2_with fail
      refine Calls.mono HRN.out ?_
      rintro e w' ⟨rfl, rfl⟩
      go_wp2_with fail
      refine Calls.mono HFO.out ?_
      rintro e w' ⟨rfl, rfl⟩
      go_wp2
      exact ⟨⟨i + 1, by omega, by have := HOP.out; simp; omega, by rw [HC1.out], trivial⟩, by have := HOP.out; simp [intOf]; omega⟩
    · rw [if_neg h0] at hc1
      have HC1 := hide hc1
      have HOP := hide hop
      have HNM := hide (num_nameI h0)
      have hfne : (((form op : Nat) : Int) == 0) = false := by simp; exact h0
      rw [hop]
      generalize form op = ff at *
      generalize nameI op = nm at *
      rw [HNM.out] at HNU
      generalize cntF i = cc at *
      clear h0 hc1 hop
      go_wp2_with fail
      refine Calls.mono HFO.out ?_
      rintro e w' ⟨rfl, rfl⟩
      go_wp2_with fail
      refine Calls.mono HRO.out ?_
      rintro e w' ⟨rfl, rfl⟩
      go_wp2_with fail
      refine Calls.mono HNO.out ?_
      rintro e w' ⟨rfl, rfl⟩
      go_wp2_with fail
      refine Calls.mono HRN.out ?_
      rintro e w' ⟨rfl, rfl⟩
      go_wp2_with fail
      refine Calls.mono HFO.out ?_
      rintro e w' ⟨rfl, rfl⟩
      go_wp2_with fail
      refine Calls.mono HNO.out ?_
      rintro e w' ⟨rfl, rfl⟩
      go_wp2_with fail
      refine Calls.mono HNU.out ?_
      rintro e w' ⟨rfl, rfl⟩
      go_wp2
      exact ⟨⟨i + 1, by omega, by have := HOP.out; simp; omega, by rw [HC1.out]; simp, trivial⟩, by have := HOP.out; simp [intOf]; omega⟩
  · as_aux_lemma =>
    obtain rfl : i = 302 := by omega
    rw [cnt_all]
    have N1 := hide (Number_any ⟨#[]⟩ w1 (HT.out w1 HB.out))
    have N2 := hide (Number_any ⟨#[45]⟩ w1 (HT.out w1 HB.out))
    have N3 := hide (Number_any ⟨#[65, 68, 68]⟩ w1 (HT.out w1 HB.out))
    rw [show numN ⟨#[]⟩ = 0 by decide +kernel] at N1
    rw [show numN ⟨#[45]⟩ = 0 by decide +kernel] at N2
    rw [show numN ⟨#[65, 68, 68]⟩ = 0 by decide +kernel] at N3
    go_wp2_with fail
    refine Calls.mono N1.out ?_
    rintro e w' ⟨rfl, rfl⟩
    go_wp2_with fail
    refine Calls.mono N2.out ?_
    rintro e w' ⟨rfl, rfl⟩
    go_wp2_with fail
    refine Calls.mono N3.out ?_
    rintro e w' ⟨rfl, rfl⟩
    go_wp2
    go_ret
    exact ⟨rfl, HB.out⟩
end Go.Proofs.YthcmeboepedelaaDoor.isaNames
