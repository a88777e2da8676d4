/-
  IsaLabels' whole text: its items, its labels, the branch's word.
-/
import Derived.Test.YthcmeboepedelaaDoorIaBr
namespace Go.Proofs.YthcmeboepedelaaDoor
open Go.RowKit FerryCrc
set_option linter.unusedVariables false
set_option linter.unusedSimpArgs false
theorem full_ds (bd : Ln1) (P1 P2 : List Kd) : (P1 ++ Kd.here :: P2).map (dK bd) ++ [d0] = P1.map (dK bd) ++ (dK bd .here :: (P2.map (dK bd) ++ [d0])) := by simp
theorem full_I {bw : ByteArray} {bd : Ln1} {bi : It} (h : BrOk bw bd bi) {P1 P2 : List Kd} (f1 : Free P1) (f2 : Free P2) : asmI [] 1 ((P1 ++ Kd.here :: P2).map (dK bd) ++ [d0]) = itsK bi 1 P1 ++ itsK bi (1 + (P1.length : Int) + 1) P2 := by
  rw [full_ds, asmI_free h _ _ _ _ f1]
  show asmI (([] ++ itsK bi 1 P1) ++ []) (1 + (P1.length : Int) + 1) (P2.map (dK bd) ++ [d0]) = _
  rw [asmI_free h _ _ _ _ f2]
  show (([] ++ itsK bi 1 P1) ++ [] ++ itsK bi (1 + (P1.length : Int) + 1) P2) ++ [] = _
  simp
theorem full_M {bw : ByteArray} {bd : Ln1} {bi : It} (h : BrOk bw bd bi) {P1 P2 : List Kd} (f1 : Free P1) (f2 : Free P2) : asmM (fun _ => none) 0 1 ((P1 ++ Kd.here :: P2).map (dK bd) ++ [d0]) = setS (fun _ => none) nmHere (4 * (P1.length : Int)) := by
  rw [full_ds, asmM_free h _ _ _ _ _ f1]
  show asmM (setS (fun _ => none) nmHere (4 * ((0 + P1.length : Nat) : Int))) (0 + P1.length + 0) (1 + (P1.length : Int) + 1) (P2.map (dK bd) ++ [d0]) = _
  rw [asmM_free h _ _ _ _ _ f2]
  show setS (fun _ => none) nmHere (4 * ((0 + P1.length : Nat) : Int)) = _
  rw [Nat.zero_add]
theorem full_ok {bw : ByteArray} {bd : Ln1} {bi : It} (h : BrOk bw bd bi) {P1 P2 : List Kd} (f1 : Free P1) (f2 : Free P2) (hn : P1.length + P2.length ≤ 512) : AsmOk (fun _ => none) 0 0 1 ((P1 ++ Kd.here :: P2).map (dK bd) ++ [d0]) := by
  rw [full_ds]
  refine asmOk_free h _ _ _ _ _ _ f1 (by omega) (by decide) (by decide) (by omega) ?_
  refine ⟨by omega, by show 0 + 1 ≤ 1000000; decide, by omega, by omega, by show 0 + P1.length + 0 ≤ 512; omega, ⟨rfl, trivial⟩, ?_⟩
  refine asmOk_free h _ _ _ _ _ _ f2 (by show 0 + P1.length + 0 + P2.length ≤ 512; omega) (by show 0 + 1 ≤ 1000000; decide) (by omega) (by omega) ?_
  refine ⟨by show 0 + P1.length + 0 + P2.length ≤ 512; omega, by show 0 + 1 + 0 ≤ 1000000; decide, by omega, by omega, by show 0 + P1.length + 0 + P2.length + 0 ≤ 512; omega, trivial, ?_⟩
  exact ⟨by show 0 + P1.length + 0 + P2.length + 0 ≤ 512; omega, by show 0 + 1 + 0 ≤ 1000000; decide, by omega, by omega⟩
/-- The line at place k. -/
def kAt (fr k : Nat) : Kd := if k = fr then .br else .nop
theorem kAt_free (fr : Nat) (l : List Nat) : Free (l.map (kAt fr)) := by
  intro k hk
  obtain ⟨j, -, rfl⟩ := List.mem_map.1 hk
  unfold kAt
  split <;> simp
def pre1 (fr to_ : Nat) : List Kd := (List.range to_).map (kAt fr)
def pre2 (fr to_ n : Nat) : List Kd := (List.range' to_ (n - to_)).map (kAt fr)
theorem pre1_len (fr to_ : Nat) : (pre1 fr to_).length = to_ := by simp [pre1]
theorem pre2_len (fr to_ n : Nat) : (pre2 fr to_ n).length = n - to_ := by simp [pre2]
def itemsL (bi : It) (fr to_ n : Nat) : List It := itsK bi 1 (pre1 fr to_) ++ itsK bi (1 + ((pre1 fr to_).length : Int) + 1) (pre2 fr to_ n)
theorem items_len {bi : It} {fr to_ n : Nat} (h : to_ ≤ n) : (itemsL bi fr to_ n).length = n := by
  unfold itemsL
  rw [List.length_append, itsK_len, itsK_len, pre1_len, pre2_len]
  omega
theorem items_at {bi : It} {fr to_ n j : Nat} (h : to_ ≤ n) (hj : j < n) : ∃ num, (itemsL bi fr to_ n)[j]? = some (itK bi num (kAt fr j)) := by
  unfold itemsL
  by_cases hl : j < to_
  · rw [List.getElem?_append_left (by rw [itsK_len, pre1_len]; exact hl)]
    exact ⟨_, itsK_at bi 1 _ j (kAt fr j) (by simp [pre1, hl])⟩
  · rw [List.getElem?_append_right (by rw [itsK_len, pre1_len]; omega), itsK_len, pre1_len]
    exact ⟨_, itsK_at bi _ _ (j - to_) (kAt fr j) (by simp [pre2, show j - to_ < n - to_ by omega]; congr 1; omega)⟩
theorem items_all {bi : It} {fr to_ n : Nat} {x : It} (hx : x ∈ itemsL bi fr to_ n) (h : to_ ≤ n) : ∃ num k, x = itK bi num k := by
  obtain ⟨j, hj, rfl⟩ := List.getElem_of_mem hx
  obtain ⟨num, e⟩ := items_at (bi := bi) (fr := fr) h (j := j) (by rw [items_len h] at hj; exact hj)
  rw [List.getElem?_eq_getElem hj] at e
  exact ⟨num, _, Option.some.inj e⟩
theorem items_res {op rb : Int} (hop : op ≠ 0) {fr to_ n : Nat} (h : to_ ≤ n) (hn : n ≤ 512) : ∀ x ∈ itemsL (biOf op rb) fr to_ n, ResOk (setS (fun _ => none) nmHere (4 * ((pre1 fr to_).length : Int))) x := by
  intro x hx
  obtain ⟨num, k, rfl⟩ := items_all hx h
  rw [pre1_len]
  cases k with
  | br => exact ⟨hop, .inr ⟨_, setS_same _ _ _, by omega, by omega⟩, by show nmHere.size ≤ _; decide +kernel⟩
  | nop => exact ⟨by show (16 : Int) ≠ 0; decide, .inl rfl, by show (⟨#[]⟩ : ByteArray).size ≤ _; decide⟩
  | here => exact ⟨by show (16 : Int) ≠ 0; decide, .inl rfl, by show (⟨#[]⟩ : ByteArray).size ≤ _; decide⟩
/-- The branch's Imm. -/
def immL (op : Int) (fr to_ : Nat) : Int := if op = 16 then 4 * (to_ : Int) else (to_ : Int) - (fr : Int) - 1
theorem word_at {op rb : Int} {fr to_ n : Nat} (h : to_ ≤ n) (hf : fr < n) : (resW (setS (fun _ => none) nmHere (4 * ((pre1 fr to_).length : Int))) 0 (itemsL (biOf op rb) fr to_ n))[fr]? = some (if okI ⟨op, 3, rb, 0, immL op fr to_⟩ then encv ⟨op, 3, rb, 0, immL op fr to_⟩ else 0) := by
  obtain ⟨num, e⟩ := items_at (bi := biOf op rb) (fr := fr) h hf
  rw [resW_at _ 0 fr _ _ e, Nat.zero_add, show kAt fr fr = .br from if_pos rfl, pre1_len]
  have e2 : resI (setS (fun _ => none) nmHere (4 * (to_ : Int))) fr (itK (biOf op rb) num .br) = ⟨op, 3, rb, 0, immL op fr to_, 0, nmHere, num⟩ := by
    unfold resI itK biOf
    dsimp only
    rw [if_neg (by decide +kernel), setS_same]
    dsimp only [Option.getD]
    unfold immL
    by_cases h16 : op = 16
    · rw [if_pos h16, if_pos h16]
    · rw [if_neg h16, if_neg h16]
      have e3 : 4 * (to_ : Int) - 4 * ((fr : Int) + 1) = ((to_ : Int) - (fr : Int) - 1) * 4 := by omega
      rw [e3, Int.mul_tdiv_cancel _ (by decide)]
  rw [e2]
  rfl
theorem ok_br {op rb imm : Int} (h : (form op = 2 ∧ 0 ≤ rb ∧ rb ≤ 15) ∨ (form op = 5 ∧ rb = 0)) (h1 : -32768 ≤ imm) (h2 : imm ≤ 32767) : okI ⟨op, 3, rb, 0, imm⟩ = true := by
  unfold okI bA bB bC bI
  dsimp only
  rcases h with ⟨hf, b1, b2⟩ | ⟨hf, rfl⟩
  · rw [hf]
    simp [hiA, hiB, hiC, loI, hiI]
    omega
  · rw [hf]
    simp [hiA, hiB, hiC, loI, hiI]
    omega
/-- The text behind i rounds. -/
def ksAt (fr to_ n i : Nat) : List Kd := if i ≤ to_ then pre1 fr i else pre1 fr to_ ++ Kd.here :: pre2 fr to_ (min i n)
theorem ks_step {fr to_ n i : Nat} (ht : to_ ≤ n) (hi : i ≤ n) : ksAt fr to_ n (i + 1) = ksAt fr to_ n i ++ ((if i = to_ then [Kd.here] else []) ++ (if i < n then [kAt fr i] else [])) := by
  unfold ksAt
  by_cases h1 : i + 1 ≤ to_
  · rw [if_pos h1, if_pos (by omega), if_neg (by omega), if_pos (by omega)]
    simp [pre1, List.range_succ]
  · by_cases h2 : i = to_
    · subst h2
      rw [if_neg h1, if_pos (Nat.le_refl _), if_pos rfl]
      by_cases h3 : i < n
      · rw [if_pos h3, Nat.min_eq_left (by omega)]
        simp [pre2, show i + 1 - i = 1 by omega]
      · rw [if_neg h3, Nat.min_eq_right (by omega)]
        simp [pre2, show n - i = 0 by omega]
    · rw [if_neg h1, if_neg (by omega), if_neg h2]
      by_cases h3 : i < n
      · rw [if_pos h3, Nat.min_eq_left (by omega), Nat.min_eq_left (by omega)]
        have : (i + 1) - to_ = (i - to_) + 1 := by omega
        simp [pre2, this, List.range'_concat]
        rw [show to_ + (i - to_) = i by omega]
      · rw [if_neg h3, Nat.min_eq_right (by omega), Nat.min_eq_right (by omega)]
        simp
theorem ks_zero (fr to_ n : Nat) : ksAt fr to_ n 0 = [] := by simp [ksAt, pre1]
theorem ks_all {fr to_ n : Nat} (h : to_ ≤ n) : ksAt fr to_ n (n + 1) = pre1 fr to_ ++ Kd.here :: pre2 fr to_ n := by
  unfold ksAt
  rw [if_neg (by omega), Nat.min_eq_right (by omega)]
theorem ks_len (fr to_ n i : Nat) : (ksAt fr to_ n i).length ≤ i + 1 := by
  unfold ksAt
  split
  · simp [pre1]
  · simp [pre1, pre2]
    omega
end Go.Proofs.YthcmeboepedelaaDoor
