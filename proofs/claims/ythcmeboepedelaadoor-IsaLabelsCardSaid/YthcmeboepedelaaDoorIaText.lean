/-
  IsaLabels' text: lines one behind the other, and what they are read to.
-/
import Derived.Test.YthcmeboepedelaaDoorIaFixed
import Derived.Test.YthcmeboepedelaaDoorIaWMath
namespace Go.Proofs.YthcmeboepedelaaDoor
open Go.RowKit FerryCrc
set_option linter.unusedVariables false
set_option linter.unusedSimpArgs false
theorem ixl {c : UInt8} : ∀ (l r : List UInt8), (∀ x ∈ l, x ≠ c) → Lib.indexByte (l ++ c :: r) c = (l.length : Int)
  | [], r, _ => by simp [Lib.indexByte]
  | x :: l, r, h => by
    have h1 := ixl l r (fun y hy => h y (List.mem_cons_of_mem _ hy))
    have hx : (x == c) = false := by simpa using h x (List.mem_cons_self ..)
    rw [List.cons_append, Lib.indexByte, hx, h1]
    have h2 : ((l.length : Int) == -1) = false := by simp <;> omega
    rw [h2]
    simp
def nlB : ByteArray := ⟨#[10]⟩
theorem cut_line {l r : ByteArray} (h : ∀ x ∈ l.data.toList, x ≠ 10) : ixB (l ++ nlB ++ r) 10 = (l.size : Int) := by
  have h1 := ixl l.data.toList r.data.toList h
  unfold ixB
  have e : (l ++ nlB ++ r).data.toList = l.data.toList ++ 10 :: r.data.toList := by
    rw [ByteArray.data_append, ByteArray.data_append, Array.toList_append, Array.toList_append]
    simp [nlB]
  rw [e, h1, Array.length_toList]
  rfl
theorem cut_parts {l r : ByteArray} (h : ∀ x ∈ l.data.toList, x ≠ 10) : cut1 (l ++ nlB ++ r) 10 = l ∧ cut2 (l ++ nlB ++ r) 10 = r ∧ cutB (l ++ nlB ++ r) 10 = true := by
  have e := cut_line (r := r) h
  have hn : ¬ ((l.size : Int) < 0) := by omega
  refine ⟨?_, ?_, ?_⟩
  · unfold cut1
    rw [e, if_neg hn]
    apply ByteArray.ext
    apply Array.ext'
    simp [nlB]
  · unfold cut2
    rw [e, if_neg hn]
    apply ByteArray.ext
    apply Array.ext'
    simp [nlB]
    have e1 : l.size + (⟨#[10]⟩ : ByteArray).size + r.size - (l.size + 1) = r.size := by
      have : (⟨#[10]⟩ : ByteArray).size = 1 := rfl
      omega
    have hl : l.data.toList.length = l.size := by rw [Array.length_toList]; rfl
    have hr : r.data.toList.length = r.size := by rw [Array.length_toList]; rfl
    rw [e1, List.drop_of_length_le (by rw [List.length_append, hl]; simp), List.take_nil, List.nil_append, List.take_of_length_le (by rw [hr]; exact Nat.le_refl _)]
  · unfold cutB
    rw [e]
    simp
/-- The kinds of lines: the label's, nop, the branch. -/
inductive Kd
  | here
  | nop
  | br
def hereB : ByteArray := ⟨#[104, 101, 114, 101, 58]⟩
def nopB : ByteArray := ⟨#[110, 111, 112]⟩
def lineB (bw : ByteArray) : Kd → ByteArray
  | .here => hereB
  | .nop => nopB
  | .br => bw
def joinK (bw : ByteArray) : List Kd → ByteArray
  | [] => ⟨#[]⟩
  | k :: ks => lineB bw k ++ nlB ++ joinK bw ks
theorem ba_nil (x : ByteArray) : (⟨#[]⟩ : ByteArray) ++ x = x := by
  apply ByteArray.ext
  simp
theorem nil_ba (x : ByteArray) : x ++ (⟨#[]⟩ : ByteArray) = x := by
  apply ByteArray.ext
  simp
theorem joinK_append (bw : ByteArray) : ∀ (a b : List Kd), joinK bw (a ++ b) = joinK bw a ++ joinK bw b
  | [], b => (ba_nil _).symm
  | k :: a, b => by
    show lineB bw k ++ nlB ++ joinK bw (a ++ b) = lineB bw k ++ nlB ++ joinK bw a ++ joinK bw b
    rw [joinK_append bw a b]
    simp only [ByteArray.append_assoc]
def nmHere : ByteArray := ⟨#[104, 101, 114, 101]⟩
def d0 : Ln1 := ⟨[], ⟨#[]⟩, none⟩
def dK (bd : Ln1) : Kd → Ln1
  | .here => ⟨[nmHere], ⟨#[]⟩, none⟩
  | .nop => ⟨[], nopB, some []⟩
  | .br => bd
structure BrOk (bw : ByteArray) (bd : Ln1) (bi : It) : Prop where
  no10 : ∀ x ∈ bw.data.toList, x ≠ 10
  ld : LineD bw bd
  ns : bd.ns = []
  put : ∀ num, linePut bd.r bd.o num = [{ bi with line := num }]
theorem nm_here : IsNm nmHere := isNm_of (by decide +kernel) (by decide +kernel) (by decide +kernel) (by decide +kernel) (by decide +kernel)
theorem ld_here : LineD hereB (dK d0 .here) := by
  have e1 : cut1 hereB 59 = hereB := by decide +kernel
  have e2 : nw2 hereB = ⟨#[]⟩ := by decide +kernel
  refine ⟨?_, (by decide +kernel : nw1 ⟨#[]⟩ = ⟨#[]⟩)⟩
  rw [e1]
  exact .cons (by decide +kernel) (by decide +kernel) nm_here (by rw [e2]; exact .nil (by decide +kernel))
theorem ld_nop : LineD nopB (dK d0 .nop) := by
  have e1 : cut1 nopB 59 = nopB := by decide +kernel
  have e2 : nw2 nopB = ⟨#[]⟩ := by decide +kernel
  have e3 : nw1 nopB = nopB := by decide +kernel
  refine ⟨by rw [e1]; exact .nil (by decide +kernel), ?_⟩
  show nw1 nopB ≠ ⟨#[]⟩ ∧ StOk (nw1 nopB) (nw2 nopB) []
  rw [e2, e3]
  exact ⟨by decide +kernel, by decide +kernel, ⟨by decide +kernel, by decide +kernel, by decide +kernel⟩, .nil (by decide +kernel), by decide +kernel, fun k hk => by simp at hk, by decide +kernel, by decide⟩
theorem ld_end : LineD ⟨#[]⟩ d0 := ⟨by rw [show cut1 ⟨#[]⟩ 59 = ⟨#[]⟩ by decide +kernel]; exact .nil (by decide +kernel), (by decide +kernel : nw1 ⟨#[]⟩ = ⟨#[]⟩)⟩
theorem no10 {bw : ByteArray} {bd : Ln1} {bi : It} (h : BrOk bw bd bi) : ∀ k : Kd, ∀ x ∈ (lineB bw k).data.toList, x ≠ 10
  | .here => by show ∀ x ∈ hereB.data.toList, x ≠ 10; decide +kernel
  | .nop => by show ∀ x ∈ nopB.data.toList, x ≠ 10; decide +kernel
  | .br => h.no10
theorem lineD_all {bw : ByteArray} {bd : Ln1} {bi : It} (h : BrOk bw bd bi) : ∀ k : Kd, LineD (lineB bw k) (dK bd k)
  | .here => ld_here
  | .nop => ld_nop
  | .br => h.ld
theorem lins_all {bw : ByteArray} {bd : Ln1} {bi : It} (h : BrOk bw bd bi) : ∀ ks : List Kd, Lins (joinK bw ks) (ks.map (dK bd) ++ [d0])
  | [] => .last (show cutB ⟨#[]⟩ 10 = false by decide +kernel) (by rw [show cut1 (joinK bw []) 10 = ⟨#[]⟩ by show cut1 ⟨#[]⟩ 10 = ⟨#[]⟩; decide +kernel]; exact ld_end)
  | k :: ks => by
    obtain ⟨e1, e2, e3⟩ := cut_parts (l := lineB bw k) (r := joinK bw ks) (no10 h k)
    exact .more e3 (by show LineD (cut1 (lineB bw k ++ nlB ++ joinK bw ks) 10) _; rw [e1]; exact lineD_all h k) (by show Lins (cut2 (lineB bw k ++ nlB ++ joinK bw ks) 10) _; rw [e2]; exact lins_all h ks)
/-- The items of lines without labels. -/
def itK (bi : It) (num : Int) : Kd → It
  | .br => { bi with line := num }
  | _ => ⟨16, 0, 0, 0, 0, 0, ⟨#[]⟩, num⟩
def itsK (bi : It) : Int → List Kd → List It
  | _, [] => []
  | num, k :: ks => itK bi num k :: itsK bi (num + 1) ks
theorem itsK_len (bi : It) : ∀ (num : Int) (ks : List Kd), (itsK bi num ks).length = ks.length
  | _, [] => rfl
  | num, k :: ks => by simp [itsK, itsK_len bi (num + 1) ks]
theorem itsK_at (bi : It) : ∀ (num : Int) (ks : List Kd) (j : Nat) (k : Kd), ks[j]? = some k → (itsK bi num ks)[j]? = some (itK bi (num + (j : Int)) k)
  | _, [], j, k, h => by simp at h
  | num, x :: ks, 0, k, h => by simp at h; subst h; simp [itsK]
  | num, x :: ks, j + 1, k, h => by
    have h1 := itsK_at bi (num + 1) ks j k (by simpa using h)
    simp only [itsK, List.getElem?_cons_succ]
    rw [h1]
    congr 2
    push_cast
    omega
def Free (ks : List Kd) : Prop := ∀ k ∈ ks, k ≠ .here
theorem put_free {bw : ByteArray} {bd : Ln1} {bi : It} (h : BrOk bw bd bi) {k : Kd} (hk : k ≠ .here) (num : Int) : linePut (dK bd k).r (dK bd k).o num = [itK bi num k] ∧ (dK bd k).ns = [] := by
  cases k with
  | here => exact absurd rfl hk
  | nop => exact ⟨by show [({ lineIt nopB [] with line := num } : It)] = _; rw [show lineIt nopB [] = ⟨16, 0, 0, 0, 0, 0, ⟨#[]⟩, 0⟩ by kernel_rfl]; rfl, rfl⟩
  | br => exact ⟨h.put num, h.ns⟩
theorem asmI_free {bw : ByteArray} {bd : Ln1} {bi : It} (h : BrOk bw bd bi) (ds : List Ln1) : ∀ (ks : List Kd) (I : List It) (num : Int), Free ks → asmI I num (ks.map (dK bd) ++ ds) = asmI (I ++ itsK bi num ks) (num + (ks.length : Int)) ds
  | [], I, num, _ => by simp [itsK]
  | k :: ks, I, num, hf => by
    have h1 := asmI_free h ds ks (I ++ [itK bi num k]) (num + 1) (fun x hx => hf x (List.mem_cons_of_mem _ hx))
    show asmI (I ++ linePut (dK bd k).r (dK bd k).o num) (num + 1) (ks.map (dK bd) ++ ds) = _
    rw [(put_free h (hf k (List.mem_cons_self ..)) num).1, h1, List.append_assoc]
    simp only [itsK, List.singleton_append, List.length_cons]
    congr 1
    push_cast
    omega
theorem asmM_free {bw : ByteArray} {bd : Ln1} {bi : It} (h : BrOk bw bd bi) (ds : List Ln1) : ∀ (ks : List Kd) (M : ByteArray → Option Int) (i : Nat) (num : Int), Free ks → asmM M i num (ks.map (dK bd) ++ ds) = asmM M (i + ks.length) (num + (ks.length : Int)) ds
  | [], M, i, num, _ => by simp
  | k :: ks, M, i, num, hf => by
    obtain ⟨p1, p2⟩ := put_free h (hf k (List.mem_cons_self ..)) num
    have h1 := asmM_free h ds ks M (i + 1) (num + 1) (fun x hx => hf x (List.mem_cons_of_mem _ hx))
    show asmM (addL (4 * (i : Int)) M (dK bd k).ns) (i + (linePut (dK bd k).r (dK bd k).o num).length) (num + 1) (ks.map (dK bd) ++ ds) = _
    rw [p1, p2]
    show asmM M (i + 1) (num + 1) (ks.map (dK bd) ++ ds) = _
    rw [h1, List.length_cons, show i + 1 + ks.length = i + (ks.length + 1) by omega]
    congr 1
    push_cast
    omega
theorem asmOk_free {bw : ByteArray} {bd : Ln1} {bi : It} (h : BrOk bw bd bi) (ds : List Ln1) : ∀ (ks : List Kd) (M : ByteArray → Option Int) (i c : Nat) (num : Int), Free ks → i + ks.length ≤ 512 → c ≤ 1000000 → 0 ≤ num → num + (ks.length : Int) ≤ 1000000 → AsmOk M (i + ks.length) c (num + (ks.length : Int)) ds → AsmOk M i c num (ks.map (dK bd) ++ ds)
  | [], M, i, c, num, _, _, _, _, _, hd => by simpa using hd
  | k :: ks, M, i, c, num, hf, hi, hc, h0, hn, hd => by
    obtain ⟨p1, p2⟩ := put_free h (hf k (List.mem_cons_self ..)) num
    rw [List.length_cons] at hi hn hd
    have h1 := asmOk_free h ds ks M (i + 1) c (num + 1) (fun x hx => hf x (List.mem_cons_of_mem _ hx)) (by omega) hc (by omega) (by push_cast at hn; omega) (by
      rw [show i + 1 + ks.length = i + (ks.length + 1) by omega, show num + 1 + (ks.length : Int) = num + ((ks.length + 1 : Nat) : Int) by push_cast; omega]
      exact hd)
    show _ ∧ _ ∧ _ ∧ _ ∧ _ ∧ _ ∧ _
    rw [p1, p2]
    exact ⟨by omega, by simpa using hc, h0, by push_cast at hn; omega, by simp; omega, trivial, by simpa [addL] using h1⟩
end Go.Proofs.YthcmeboepedelaaDoor
