/-
  IsaLabels' branch lines, and the whole text.
-/
import Derived.Test.YthcmeboepedelaaDoorIaText
namespace Go.Proofs.YthcmeboepedelaaDoor
open Go.RowKit FerryCrc
set_option linter.unusedVariables false
set_option linter.unusedSimpArgs false
def tl1 : ByteArray := ⟨#[32, 114, 51, 44, 32, 104, 101, 114, 101]⟩
def tl2 : ByteArray := ⟨#[32, 114, 51, 44, 32, 114, 52, 44, 32, 104, 101, 114, 101]⟩
def bwOf (wd : ByteArray) (two : Bool) : ByteArray := wd ++ (if two then tl2 else tl1)
def bdOf (wd : ByteArray) (two : Bool) : Ln1 := ⟨[], bwOf wd two, some (if two then [⟨#[114, 51]⟩, ⟨#[114, 52]⟩, nmHere] else [⟨#[114, 51]⟩, nmHere])⟩
def biOf (op rb : Int) : It := ⟨op, 3, rb, 0, 0, 0, nmHere, 0⟩
theorem wds_one : Wds tl1 [⟨#[114, 51]⟩, nmHere] := by
  have e1 : nw1 tl1 = ⟨#[114, 51]⟩ := by decide +kernel
  have h2 : Wds (nw2 tl1) [nmHere] := by
    have e2 : nw1 (nw2 tl1) = nmHere := by decide +kernel
    have h3 := Wds.cons (r := nw2 tl1) (ws := []) (by decide +kernel) (.nil (by decide +kernel))
    rw [e2] at h3
    exact h3
  have h1 := Wds.cons (r := tl1) (by decide +kernel) h2
  rw [e1] at h1
  exact h1
theorem wds_two : Wds tl2 [⟨#[114, 51]⟩, ⟨#[114, 52]⟩, nmHere] := by
  have e1 : nw1 tl2 = ⟨#[114, 51]⟩ := by decide +kernel
  have e2 : nw1 (nw2 tl2) = ⟨#[114, 52]⟩ := by decide +kernel
  have h3 : Wds (nw2 (nw2 tl2)) [nmHere] := by
    have e3 : nw1 (nw2 (nw2 tl2)) = nmHere := by decide +kernel
    have h4 := Wds.cons (r := nw2 (nw2 tl2)) (ws := []) (by decide +kernel) (.nil (by decide +kernel))
    rw [e3] at h4
    exact h4
  have h2 := Wds.cons (r := nw2 tl2) (by decide +kernel) h3
  rw [e2] at h2
  have h1 := Wds.cons (r := tl2) (by decide +kernel) h2
  rw [e1] at h1
  exact h1
theorem rd_a (s : ByteArray) (h : regN s < 16) : RdOk 97 s := .inl ⟨.inl rfl, h⟩
theorem rd_b (s : ByteArray) (h : regN s < 16) : RdOk 98 s := .inl ⟨.inr rfl, h⟩
theorem rd_l (s : ByteArray) (h : IsNm s) : RdOk 108 s := .inr ⟨.inl rfl, h⟩
theorem rd_t (s : ByteArray) (h : IsNm s) : RdOk 116 s := .inr ⟨.inr rfl, h⟩
theorem br_la : BrOk (bwOf ⟨#[108, 97]⟩ false) (bdOf ⟨#[108, 97]⟩ false) (biOf 16 0) := by
  have e0 : cut1 (bwOf ⟨#[108, 97]⟩ false) 59 = bwOf ⟨#[108, 97]⟩ false := by decide +kernel
  have e1 : nw1 (bwOf ⟨#[108, 97]⟩ false) = ⟨#[108, 97]⟩ := by decide +kernel
  have e2 : nw2 (bwOf ⟨#[108, 97]⟩ false) = tl1 := by decide +kernel
  have e3 : stO ⟨#[108, 97]⟩ = ⟨#[97, 108]⟩ := by decide +kernel
  refine ⟨by decide +kernel, ⟨by rw [e0]; exact .nil (by decide +kernel), ?_⟩, rfl, fun num => ?_⟩
  · show nw1 (bwOf ⟨#[108, 97]⟩ false) ≠ ⟨#[]⟩ ∧ StOk (nw1 (bwOf ⟨#[108, 97]⟩ false)) (nw2 (bwOf ⟨#[108, 97]⟩ false)) _
    rw [e1, e2]
    refine ⟨by decide +kernel, by decide +kernel, ⟨by decide +kernel, by decide +kernel, by decide +kernel⟩, wds_one, by decide +kernel, fun k hk => ?_, by decide +kernel, by decide +kernel⟩
    rw [e3]
    rcases (by simp at hk; omega : k = 0 ∨ k = 1) with rfl | rfl
    · exact rd_a _ (by decide +kernel)
    · exact rd_l _ nm_here
  · show [({ lineIt (bwOf ⟨#[108, 97]⟩ false) _ with line := num } : It)] = _
    rw [show lineIt (bwOf ⟨#[108, 97]⟩ false) (if false then [⟨#[114, 51]⟩, ⟨#[114, 52]⟩, nmHere] else [⟨#[114, 51]⟩, nmHere]) = biOf 16 0 by kernel_rfl]
theorem br_jal : BrOk (bwOf ⟨#[106, 97, 108]⟩ false) (bdOf ⟨#[106, 97, 108]⟩ false) (biOf 54 0) := by
  have e0 : cut1 (bwOf ⟨#[106, 97, 108]⟩ false) 59 = bwOf ⟨#[106, 97, 108]⟩ false := by decide +kernel
  have e1 : nw1 (bwOf ⟨#[106, 97, 108]⟩ false) = ⟨#[106, 97, 108]⟩ := by decide +kernel
  have e2 : nw2 (bwOf ⟨#[106, 97, 108]⟩ false) = tl1 := by decide +kernel
  have e3 : stO ⟨#[106, 97, 108]⟩ = ⟨#[97, 116]⟩ := by decide +kernel
  refine ⟨by decide +kernel, ⟨by rw [e0]; exact .nil (by decide +kernel), ?_⟩, rfl, fun num => ?_⟩
  · show nw1 (bwOf ⟨#[106, 97, 108]⟩ false) ≠ ⟨#[]⟩ ∧ StOk (nw1 (bwOf ⟨#[106, 97, 108]⟩ false)) (nw2 (bwOf ⟨#[106, 97, 108]⟩ false)) _
    rw [e1, e2]
    refine ⟨by decide +kernel, by decide +kernel, ⟨by decide +kernel, by decide +kernel, by decide +kernel⟩, wds_one, by decide +kernel, fun k hk => ?_, by decide +kernel, by decide +kernel⟩
    rw [e3]
    rcases (by simp at hk; omega : k = 0 ∨ k = 1) with rfl | rfl
    · exact rd_a _ (by decide +kernel)
    · exact rd_t _ nm_here
  · show [({ lineIt (bwOf ⟨#[106, 97, 108]⟩ false) _ with line := num } : It)] = _
    rw [show lineIt (bwOf ⟨#[106, 97, 108]⟩ false) (if false then [⟨#[114, 51]⟩, ⟨#[114, 52]⟩, nmHere] else [⟨#[114, 51]⟩, nmHere]) = biOf 54 0 by kernel_rfl]
theorem br_beq : BrOk (bwOf ⟨#[98, 101, 113]⟩ true) (bdOf ⟨#[98, 101, 113]⟩ true) (biOf 48 4) := by
  have e0 : cut1 (bwOf ⟨#[98, 101, 113]⟩ true) 59 = bwOf ⟨#[98, 101, 113]⟩ true := by decide +kernel
  have e1 : nw1 (bwOf ⟨#[98, 101, 113]⟩ true) = ⟨#[98, 101, 113]⟩ := by decide +kernel
  have e2 : nw2 (bwOf ⟨#[98, 101, 113]⟩ true) = tl2 := by decide +kernel
  have e3 : stO ⟨#[98, 101, 113]⟩ = ⟨#[97, 98, 116]⟩ := by decide +kernel
  refine ⟨by decide +kernel, ⟨by rw [e0]; exact .nil (by decide +kernel), ?_⟩, rfl, fun num => ?_⟩
  · show nw1 (bwOf ⟨#[98, 101, 113]⟩ true) ≠ ⟨#[]⟩ ∧ StOk (nw1 (bwOf ⟨#[98, 101, 113]⟩ true)) (nw2 (bwOf ⟨#[98, 101, 113]⟩ true)) _
    rw [e1, e2]
    refine ⟨by decide +kernel, by decide +kernel, ⟨by decide +kernel, by decide +kernel, by decide +kernel⟩, wds_two, by decide +kernel, fun k hk => ?_, by decide +kernel, by decide +kernel⟩
    rw [e3]
    rcases (by simp at hk; omega : k = 0 ∨ k = 1 ∨ k = 2) with rfl | rfl | rfl
    · exact rd_a _ (by decide +kernel)
    · exact rd_b _ (by decide +kernel)
    · exact rd_t _ nm_here
  · show [({ lineIt (bwOf ⟨#[98, 101, 113]⟩ true) _ with line := num } : It)] = _
    rw [show lineIt (bwOf ⟨#[98, 101, 113]⟩ true) (if true then [⟨#[114, 51]⟩, ⟨#[114, 52]⟩, nmHere] else [⟨#[114, 51]⟩, nmHere]) = biOf 48 4 by kernel_rfl]
theorem br_bne : BrOk (bwOf ⟨#[98, 110, 101]⟩ true) (bdOf ⟨#[98, 110, 101]⟩ true) (biOf 49 4) := by
  have e0 : cut1 (bwOf ⟨#[98, 110, 101]⟩ true) 59 = bwOf ⟨#[98, 110, 101]⟩ true := by decide +kernel
  have e1 : nw1 (bwOf ⟨#[98, 110, 101]⟩ true) = ⟨#[98, 110, 101]⟩ := by decide +kernel
  have e2 : nw2 (bwOf ⟨#[98, 110, 101]⟩ true) = tl2 := by decide +kernel
  have e3 : stO ⟨#[98, 110, 101]⟩ = ⟨#[97, 98, 116]⟩ := by decide +kernel
  refine ⟨by decide +kernel, ⟨by rw [e0]; exact .nil (by decide +kernel), ?_⟩, rfl, fun num => ?_⟩
  · show nw1 (bwOf ⟨#[98, 110, 101]⟩ true) ≠ ⟨#[]⟩ ∧ StOk (nw1 (bwOf ⟨#[98, 110, 101]⟩ true)) (nw2 (bwOf ⟨#[98, 110, 101]⟩ true)) _
    rw [e1, e2]
    refine ⟨by decide +kernel, by decide +kernel, ⟨by decide +kernel, by decide +kernel, by decide +kernel⟩, wds_two, by decide +kernel, fun k hk => ?_, by decide +kernel, by decide +kernel⟩
    rw [e3]
    rcases (by simp at hk; omega : k = 0 ∨ k = 1 ∨ k = 2) with rfl | rfl | rfl
    · exact rd_a _ (by decide +kernel)
    · exact rd_b _ (by decide +kernel)
    · exact rd_t _ nm_here
  · show [({ lineIt (bwOf ⟨#[98, 110, 101]⟩ true) _ with line := num } : It)] = _
    rw [show lineIt (bwOf ⟨#[98, 110, 101]⟩ true) (if true then [⟨#[114, 51]⟩, ⟨#[114, 52]⟩, nmHere] else [⟨#[114, 51]⟩, nmHere]) = biOf 49 4 by kernel_rfl]
theorem br_bltu : BrOk (bwOf ⟨#[98, 108, 116, 117]⟩ true) (bdOf ⟨#[98, 108, 116, 117]⟩ true) (biOf 50 4) := by
  have e0 : cut1 (bwOf ⟨#[98, 108, 116, 117]⟩ true) 59 = bwOf ⟨#[98, 108, 116, 117]⟩ true := by decide +kernel
  have e1 : nw1 (bwOf ⟨#[98, 108, 116, 117]⟩ true) = ⟨#[98, 108, 116, 117]⟩ := by decide +kernel
  have e2 : nw2 (bwOf ⟨#[98, 108, 116, 117]⟩ true) = tl2 := by decide +kernel
  have e3 : stO ⟨#[98, 108, 116, 117]⟩ = ⟨#[97, 98, 116]⟩ := by decide +kernel
  refine ⟨by decide +kernel, ⟨by rw [e0]; exact .nil (by decide +kernel), ?_⟩, rfl, fun num => ?_⟩
  · show nw1 (bwOf ⟨#[98, 108, 116, 117]⟩ true) ≠ ⟨#[]⟩ ∧ StOk (nw1 (bwOf ⟨#[98, 108, 116, 117]⟩ true)) (nw2 (bwOf ⟨#[98, 108, 116, 117]⟩ true)) _
    rw [e1, e2]
    refine ⟨by decide +kernel, by decide +kernel, ⟨by decide +kernel, by decide +kernel, by decide +kernel⟩, wds_two, by decide +kernel, fun k hk => ?_, by decide +kernel, by decide +kernel⟩
    rw [e3]
    rcases (by simp at hk; omega : k = 0 ∨ k = 1 ∨ k = 2) with rfl | rfl | rfl
    · exact rd_a _ (by decide +kernel)
    · exact rd_b _ (by decide +kernel)
    · exact rd_t _ nm_here
  · show [({ lineIt (bwOf ⟨#[98, 108, 116, 117]⟩ true) _ with line := num } : It)] = _
    rw [show lineIt (bwOf ⟨#[98, 108, 116, 117]⟩ true) (if true then [⟨#[114, 51]⟩, ⟨#[114, 52]⟩, nmHere] else [⟨#[114, 51]⟩, nmHere]) = biOf 50 4 by kernel_rfl]
theorem br_blts : BrOk (bwOf ⟨#[98, 108, 116, 115]⟩ true) (bdOf ⟨#[98, 108, 116, 115]⟩ true) (biOf 51 4) := by
  have e0 : cut1 (bwOf ⟨#[98, 108, 116, 115]⟩ true) 59 = bwOf ⟨#[98, 108, 116, 115]⟩ true := by decide +kernel
  have e1 : nw1 (bwOf ⟨#[98, 108, 116, 115]⟩ true) = ⟨#[98, 108, 116, 115]⟩ := by decide +kernel
  have e2 : nw2 (bwOf ⟨#[98, 108, 116, 115]⟩ true) = tl2 := by decide +kernel
  have e3 : stO ⟨#[98, 108, 116, 115]⟩ = ⟨#[97, 98, 116]⟩ := by decide +kernel
  refine ⟨by decide +kernel, ⟨by rw [e0]; exact .nil (by decide +kernel), ?_⟩, rfl, fun num => ?_⟩
  · show nw1 (bwOf ⟨#[98, 108, 116, 115]⟩ true) ≠ ⟨#[]⟩ ∧ StOk (nw1 (bwOf ⟨#[98, 108, 116, 115]⟩ true)) (nw2 (bwOf ⟨#[98, 108, 116, 115]⟩ true)) _
    rw [e1, e2]
    refine ⟨by decide +kernel, by decide +kernel, ⟨by decide +kernel, by decide +kernel, by decide +kernel⟩, wds_two, by decide +kernel, fun k hk => ?_, by decide +kernel, by decide +kernel⟩
    rw [e3]
    rcases (by simp at hk; omega : k = 0 ∨ k = 1 ∨ k = 2) with rfl | rfl | rfl
    · exact rd_a _ (by decide +kernel)
    · exact rd_b _ (by decide +kernel)
    · exact rd_t _ nm_here
  · show [({ lineIt (bwOf ⟨#[98, 108, 116, 115]⟩ true) _ with line := num } : It)] = _
    rw [show lineIt (bwOf ⟨#[98, 108, 116, 115]⟩ true) (if true then [⟨#[114, 51]⟩, ⟨#[114, 52]⟩, nmHere] else [⟨#[114, 51]⟩, nmHere]) = biOf 51 4 by kernel_rfl]
theorem br_bgeu : BrOk (bwOf ⟨#[98, 103, 101, 117]⟩ true) (bdOf ⟨#[98, 103, 101, 117]⟩ true) (biOf 52 4) := by
  have e0 : cut1 (bwOf ⟨#[98, 103, 101, 117]⟩ true) 59 = bwOf ⟨#[98, 103, 101, 117]⟩ true := by decide +kernel
  have e1 : nw1 (bwOf ⟨#[98, 103, 101, 117]⟩ true) = ⟨#[98, 103, 101, 117]⟩ := by decide +kernel
  have e2 : nw2 (bwOf ⟨#[98, 103, 101, 117]⟩ true) = tl2 := by decide +kernel
  have e3 : stO ⟨#[98, 103, 101, 117]⟩ = ⟨#[97, 98, 116]⟩ := by decide +kernel
  refine ⟨by decide +kernel, ⟨by rw [e0]; exact .nil (by decide +kernel), ?_⟩, rfl, fun num => ?_⟩
  · show nw1 (bwOf ⟨#[98, 103, 101, 117]⟩ true) ≠ ⟨#[]⟩ ∧ StOk (nw1 (bwOf ⟨#[98, 103, 101, 117]⟩ true)) (nw2 (bwOf ⟨#[98, 103, 101, 117]⟩ true)) _
    rw [e1, e2]
    refine ⟨by decide +kernel, by decide +kernel, ⟨by decide +kernel, by decide +kernel, by decide +kernel⟩, wds_two, by decide +kernel, fun k hk => ?_, by decide +kernel, by decide +kernel⟩
    rw [e3]
    rcases (by simp at hk; omega : k = 0 ∨ k = 1 ∨ k = 2) with rfl | rfl | rfl
    · exact rd_a _ (by decide +kernel)
    · exact rd_b _ (by decide +kernel)
    · exact rd_t _ nm_here
  · show [({ lineIt (bwOf ⟨#[98, 103, 101, 117]⟩ true) _ with line := num } : It)] = _
    rw [show lineIt (bwOf ⟨#[98, 103, 101, 117]⟩ true) (if true then [⟨#[114, 51]⟩, ⟨#[114, 52]⟩, nmHere] else [⟨#[114, 51]⟩, nmHere]) = biOf 52 4 by kernel_rfl]
theorem br_bges : BrOk (bwOf ⟨#[98, 103, 101, 115]⟩ true) (bdOf ⟨#[98, 103, 101, 115]⟩ true) (biOf 53 4) := by
  have e0 : cut1 (bwOf ⟨#[98, 103, 101, 115]⟩ true) 59 = bwOf ⟨#[98, 103, 101, 115]⟩ true := by decide +kernel
  have e1 : nw1 (bwOf ⟨#[98, 103, 101, 115]⟩ true) = ⟨#[98, 103, 101, 115]⟩ := by decide +kernel
  have e2 : nw2 (bwOf ⟨#[98, 103, 101, 115]⟩ true) = tl2 := by decide +kernel
  have e3 : stO ⟨#[98, 103, 101, 115]⟩ = ⟨#[97, 98, 116]⟩ := by decide +kernel
  refine ⟨by decide +kernel, ⟨by rw [e0]; exact .nil (by decide +kernel), ?_⟩, rfl, fun num => ?_⟩
  · show nw1 (bwOf ⟨#[98, 103, 101, 115]⟩ true) ≠ ⟨#[]⟩ ∧ StOk (nw1 (bwOf ⟨#[98, 103, 101, 115]⟩ true)) (nw2 (bwOf ⟨#[98, 103, 101, 115]⟩ true)) _
    rw [e1, e2]
    refine ⟨by decide +kernel, by decide +kernel, ⟨by decide +kernel, by decide +kernel, by decide +kernel⟩, wds_two, by decide +kernel, fun k hk => ?_, by decide +kernel, by decide +kernel⟩
    rw [e3]
    rcases (by simp at hk; omega : k = 0 ∨ k = 1 ∨ k = 2) with rfl | rfl | rfl
    · exact rd_a _ (by decide +kernel)
    · exact rd_b _ (by decide +kernel)
    · exact rd_t _ nm_here
  · show [({ lineIt (bwOf ⟨#[98, 103, 101, 115]⟩ true) _ with line := num } : It)] = _
    rw [show lineIt (bwOf ⟨#[98, 103, 101, 115]⟩ true) (if true then [⟨#[114, 51]⟩, ⟨#[114, 52]⟩, nmHere] else [⟨#[114, 51]⟩, nmHere]) = biOf 53 4 by kernel_rfl]
/-- What the law takes for the branch's word. -/
structure BrW (xop : Int) (wd : ByteArray) (two la : Bool) (op rb : Int) : Prop where
  br : BrOk (bwOf wd two) (bdOf wd two) (biOf op rb)
  word : (if 48 ≤ xop ∧ xop ≤ 54 then nameI xop else ⟨#[108, 97]⟩) = wd
  isLa : (wd.toList == [108, 97]) = la
  isOne : ((wd.toList == [106, 97, 108]) || la) = !two
  op1 : la = true → op = 16 ∧ rb = 0
  op2 : la = false → op = xop
  form : (form op = 2 ∧ 0 ≤ rb ∧ rb ≤ 15) ∨ (form op = 5 ∧ rb = 0)
  small : wd.size ≤ 4
theorem br_ex (xop : Int) : ∃ wd two la op rb, BrW xop wd two la op rb := by
  by_cases h : 48 ≤ xop ∧ xop ≤ 54
  · obtain ⟨k, rfl⟩ := Int.eq_ofNat_of_zero_le (by omega : 0 ≤ xop)
    rcases (by omega : k = 48 ∨ k = 49 ∨ k = 50 ∨ k = 51 ∨ k = 52 ∨ k = 53 ∨ k = 54) with rfl | rfl | rfl | rfl | rfl | rfl | rfl
    · exact ⟨⟨#[98, 101, 113]⟩, true, false, 48, 4, br_beq, by decide +kernel, by decide +kernel, by decide +kernel, (fun e => by cases e), fun _ => rfl, by decide +kernel, by decide +kernel⟩
    · exact ⟨⟨#[98, 110, 101]⟩, true, false, 49, 4, br_bne, by decide +kernel, by decide +kernel, by decide +kernel, (fun e => by cases e), fun _ => rfl, by decide +kernel, by decide +kernel⟩
    · exact ⟨⟨#[98, 108, 116, 117]⟩, true, false, 50, 4, br_bltu, by decide +kernel, by decide +kernel, by decide +kernel, (fun e => by cases e), fun _ => rfl, by decide +kernel, by decide +kernel⟩
    · exact ⟨⟨#[98, 108, 116, 115]⟩, true, false, 51, 4, br_blts, by decide +kernel, by decide +kernel, by decide +kernel, (fun e => by cases e), fun _ => rfl, by decide +kernel, by decide +kernel⟩
    · exact ⟨⟨#[98, 103, 101, 117]⟩, true, false, 52, 4, br_bgeu, by decide +kernel, by decide +kernel, by decide +kernel, (fun e => by cases e), fun _ => rfl, by decide +kernel, by decide +kernel⟩
    · exact ⟨⟨#[98, 103, 101, 115]⟩, true, false, 53, 4, br_bges, by decide +kernel, by decide +kernel, by decide +kernel, (fun e => by cases e), fun _ => rfl, by decide +kernel, by decide +kernel⟩
    · exact ⟨⟨#[106, 97, 108]⟩, false, false, 54, 0, br_jal, by decide +kernel, by decide +kernel, by decide +kernel, (fun e => by cases e), fun _ => rfl, by decide +kernel, by decide +kernel⟩
  · exact ⟨⟨#[108, 97]⟩, false, true, 16, 0, br_la, if_neg h, by decide +kernel, by decide +kernel, fun _ => ⟨rfl, rfl⟩, (fun e => by cases e), by decide +kernel, by decide +kernel⟩
end Go.Proofs.YthcmeboepedelaaDoor
