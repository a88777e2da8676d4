/-
  The document's Name of an instruction.
-/
import Derived.Test.YthcmeboepedelaaDoorIaFixed
import Derived.Test.YthcmeboepedelaaDoorIsRef
namespace Go.Proofs.YthcmeboepedelaaDoor
open Go.RowKit FerryCrc
set_option linter.unusedVariables false
set_option linter.unusedSimpArgs false
def rnm : ByteArray := ⟨#[45, 32, 97, 100, 100, 32, 115, 117, 98, 32, 97, 110, 100, 32, 111, 114, 32, 120, 111, 114, 32, 115, 104, 108, 32, 115, 104, 114, 32, 115, 97, 114, 32, 109, 117, 108, 32, 100, 105, 118, 117, 32, 100, 105, 118, 115, 32, 114, 101, 109, 117, 32, 114, 101, 109, 115, 32, 115, 108, 116, 117, 32, 115, 108, 116, 115, 32, 97, 100, 100, 105, 32, 97, 110, 100, 105, 32, 111, 114, 105, 32, 120, 111, 114, 105, 32, 108, 117, 105, 32, 45, 32, 45, 32, 45, 32, 45, 32, 45, 32, 45, 32, 45, 32, 45, 32, 45, 32, 45, 32, 45, 32, 108, 119, 32, 108, 104, 32, 108, 98, 32, 115, 119, 32, 115, 104, 32, 115, 98, 32, 45, 32, 45, 32, 45, 32, 45, 32, 45, 32, 45, 32, 45, 32, 45, 32, 45, 32, 45, 32, 98, 101, 113, 32, 98, 110, 101, 32, 98, 108, 116, 117, 32, 98, 108, 116, 115, 32, 98, 103, 101, 117, 32, 98, 103, 101, 115, 32, 106, 97, 108, 32, 106, 114, 32, 45, 32, 45, 32, 45, 32, 45, 32, 45, 32, 45, 32, 45, 32, 45, 32, 115, 121, 115, 32]⟩
/-- How many words end ahead of the i-th byte, and where the next begins. -/
def nmS : Nat → Nat × Nat
  | 0 => (0, 0)
  | i + 1 => if (bytesOf rnm).getD i 0 = 32 then ((nmS i).1 + 1, i + 1) else nmS i
def nmT : List (Nat × Nat × Nat) := (List.range 205).map (fun i => ((nmS i).1, (nmS i).2, i))
theorem nm_at : ∀ i : Nat, i < 205 → (bytesOf rnm).getD i 0 = 32 → form (((nmS i).1 : Nat) : Int) ≠ 0 → rnm.extract (nmS i).2 i = nameT (nmS i).1 := by decide +kernel
theorem nm_end : (nmS 205).1 = 65 := by decide +kernel
theorem nm_from : ∀ i : Nat, (nmS i).2 ≤ i
  | 0 => Nat.le_refl _
  | i + 1 => by
    unfold nmS
    split
    · exact Nat.le_refl _
    · exact Nat.le_succ_of_le (nm_from i)
theorem nm_le : ∀ i : Nat, (nmS i).1 ≤ i
  | 0 => Nat.le_refl _
  | i + 1 => by
    unfold nmS
    split
    · exact Nat.succ_le_succ (nm_le i)
    · exact Nat.le_succ_of_le (nm_le i)
theorem form_one {op : Int} (h : form op ≠ 0) : 1 ≤ op ∧ op ≤ 64 := by
  unfold form at h
  repeat' split at h
  all_goals omega
theorem name_none : ∀ k : Nat, k < 65 → form (k : Int) = 0 → nameT k = ⟨#[]⟩ := by decide +kernel
theorem nameI_none {op : Int} (h : form op = 0) : nameI op = ⟨#[]⟩ := by
  unfold nameI
  split
  · rename_i h1
    obtain ⟨k, rfl⟩ := Int.eq_ofNat_of_zero_le h1.1
    exact name_none k (by omega) h
  · rfl
theorem rnm_lit : ({ data := (([45, 32, 97, 100, 100, 32, 115, 117, 98, 32, 97, 110, 100, 32, 111, 114, 32, 120, 111, 114, 32, 115, 104, 108, 32, 115, 104, 114, 32, 115, 97, 114, 32, 109, 117, 108, 32, 100, 105, 118, 117, 32, 100, 105, 118, 115, 32, 114, 101, 109, 117].append [32, 114, 101, 109, 115, 32, 115, 108, 116, 117, 32, 115, 108, 116, 115, 32, 97, 100, 100, 105, 32, 97, 110, 100, 105, 32, 111, 114, 105, 32, 120, 111, 114, 105, 32, 108, 117, 105, 32, 45, 32, 45, 32, 45, 32, 45, 32, 45, 32, 45, 32]).append ([45, 32, 45, 32, 45, 32, 45, 32, 45, 32, 108, 119, 32, 108, 104, 32, 108, 98, 32, 115, 119, 32, 115, 104, 32, 115, 98, 32, 45, 32, 45, 32, 45, 32, 45, 32, 45, 32, 45, 32, 45, 32, 45, 32, 45, 32, 45, 32, 98, 101, 113].append [32, 98, 110, 101, 32, 98, 108, 116, 117, 32, 98, 108, 116, 115, 32, 98, 103, 101, 117, 32, 98, 103, 101, 115, 32, 106, 97, 108, 32, 106, 114, 32, 45, 32, 45, 32, 45, 32, 45, 32, 45, 32, 45, 32, 45, 32, 45, 32, 115, 121, 115, 32])).toArray } : ByteArray) = rnm := by decide +kernel
set_option maxRecDepth 100000 in
set_option maxHeartbeats 4000000 in
theorem rName_any (op : Int) (w : World) : Calls Tryd.prog 12 #[.int .i64 op] w fun e w' => e = .returned (.string (nameI op)) ∧ w = w' := by
  have HF := hide (rform_any op w)
  by_cases h0 : form op = 0
  · rw [nameI_none h0]
    rw [h0] at HF
    go_enter Tryd.func12, Tryd.ntmps12
    go_wp2_with fail
    refine Calls.mono HF.out ?_
    rintro e w' ⟨rfl, rfl⟩
    go_wp2
    go_ret
    exact ⟨rfl, rfl⟩
  · obtain ⟨o1, o2⟩ := form_one h0
    obtain ⟨k, rfl⟩ := Int.eq_ofNat_of_zero_le (by omega : 0 ≤ op)
    have HK0 := hide h0
    have HNI : Hid (nameI (k : Int) = nameT k) := by unfold Hid nameI; rw [if_pos (by omega)]; rfl
    have hfne : (((form (k : Int) : Nat) : Int) == 0) = false := by simp; exact h0
    rw [HNI.out]
    generalize form (k : Int) = ff at hfne HF
    obtain ⟨nm, hnm⟩ : ∃ z, nameT k = z := ⟨_, rfl⟩
    have HNM := hide hnm
    rw [hnm]
    obtain ⟨C, hC⟩ : ∃ z, ({ data := (([45, 32, 97, 100, 100, 32, 115, 117, 98, 32, 97, 110, 100, 32, 111, 114, 32, 120, 111, 114, 32, 115, 104, 108, 32, 115, 104, 114, 32, 115, 97, 114, 32, 109, 117, 108, 32, 100, 105, 118, 117, 32, 100, 105, 118, 115, 32, 114, 101, 109, 117].append [32, 114, 101, 109, 115, 32, 115, 108, 116, 117, 32, 115, 108, 116, 115, 32, 97, 100, 100, 105, 32, 97, 110, 100, 105, 32, 111, 114, 105, 32, 120, 111, 114, 105, 32, 108, 117, 105, 32, 45, 32, 45, 32, 45, 32, 45, 32, 45, 32, 45, 32]).append ([45, 32, 45, 32, 45, 32, 45, 32, 45, 32, 108, 119, 32, 108, 104, 32, 108, 98, 32, 115, 119, 32, 115, 104, 32, 115, 98, 32, 45, 32, 45, 32, 45, 32, 45, 32, 45, 32, 45, 32, 45, 32, 45, 32, 45, 32, 45, 32, 98, 101, 113].append [32, 98, 110, 101, 32, 98, 108, 116, 117, 32, 98, 108, 116, 115, 32, 98, 103, 101, 117, 32, 98, 103, 101, 115, 32, 106, 97, 108, 32, 106, 114, 32, 45, 32, 45, 32, 45, 32, 45, 32, 45, 32, 45, 32, 45, 32, 45, 32, 115, 121, 115, 32])).toArray } : ByteArray) = z := ⟨_, rfl⟩
    have HC : Hid (C = rnm) := by unfold Hid; rw [← hC]; exact rnm_lit
    have HI := hide (str_index C)
    have hsz : C.size = 205 := by rw [HC.out]; decide +kernel
    clear h0 hnm
    go_enter Tryd.func12, Tryd.ntmps12
    rw [hC]
    clear hC
    go_wp2_with fail
    refine Calls.mono HF.out ?_
    rintro e w' ⟨rfl, rfl⟩
    go_upto_region 5 with fail
    go_loopw [3, 4, 5] (fun x y z wr => ∃ i : Nat, i ≤ 205 ∧ z = .int .i64 (i : Int) ∧ x = .int .i64 (((nmS i).1 : Nat) : Int) ∧ y = .int .i64 (((nmS i).2 : Nat) : Int) ∧ Hid ((nmS i).1 ≤ k) ∧ w = wr) (fun _ _ z _ => 206 - (intOf z).toNat)
    case atStart => exact ⟨0, Nat.zero_le _, rfl, rfl, rfl, Nat.zero_le _, rfl⟩
    case round =>
    obtain ⟨i, hi, rfl, rfl, rfl, HKI, rfl⟩ := hrel
    by_cases hlt : i < 205
    · obtain ⟨c, hc⟩ := bytes_get C (i := i) (by omega)
      have ix : ∀ w, (Instr.index 9 (.string C) (.int .i64 (i : Int))).run Tryd.prog w = .ok (.int .u8 (c : Int)) w := HI.out i c hc
      have hcg : (bytesOf rnm).getD i 0 = c := by rw [← HC.out, List.getD_eq_getElem?_getD, hc]; rfl
      have HCG := hide hcg
      have g1 : (i : Int) < 205 := by omega
      have hfr := nm_from i
      have HNA := hide (nm_at i hlt)
      have HST : Hid (nmS (i + 1) = if c = 32 then ((nmS i).1 + 1, i + 1) else nmS i) := by unfold Hid; rw [← HCG.out]; rfl
      obtain ⟨⟨a, b⟩, hab⟩ : ∃ z, nmS i = z := ⟨_, rfl⟩
      rw [hab] at HNA HST hfr HKI ⊢
      dsimp only at *
      rw [hcg] at HNA
      have hki := HKI.out
      clear hc hcg hab
      by_cases h32 : c = 32
      · subst h32
        by_cases hk : a = k
        · subst hk
          have hex := HNA.out rfl HK0.out
          rw [HNM.out, ← HC.out] at hex
          have HEX := hide hex
          have f1 : (b : Int) ≤ (i : Int) := by omega
          have f2 : (i : Int) ≤ (C.size : Int) := by rw [hsz]; omega
          have f3 : (0 : Int) ≤ (b : Int) := by omega
          clear hex hsz
          go_wp2
          go_ret
          refine ⟨?_, rfl⟩
          rw [← HEX.out]
          simp
        · have hkb : ((a : Int) == (k : Int)) = false := by simp; omega
          clear hsz
          go_wp2
          exact ⟨⟨i + 1, by omega, by simp, by rw [HST.out]; simp, by rw [HST.out]; simp, by unfold Hid; rw [HST.out]; simp; omega, trivial⟩, by simp [intOf]; omega⟩
      · have hcb : ((c : Int) == 32) = false := by simp; omega
        clear hsz
        go_wp2
        exact ⟨⟨i + 1, by omega, by simp, by rw [HST.out, if_neg h32], by rw [HST.out, if_neg h32], by unfold Hid; rw [HST.out, if_neg h32]; exact hki, trivial⟩, by simp [intOf]; omega⟩
    · obtain rfl : i = 205 := by omega
      have h1 := HKI.out
      rw [nm_end] at h1
      exfalso
      omega
end Go.Proofs.YthcmeboepedelaaDoor
