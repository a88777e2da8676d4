/-
  Strings as the assembler reads them: gaps, words, digits.
-/
import Derived.Test.YthcmeboepedelaaDoorLkKit
namespace Go.Proofs.YthcmeboepedelaaDoor
open Go.RowKit FerryCrc
set_option linter.unusedVariables false
set_option linter.unusedSimpArgs false
theorem bytes_at {s : ByteArray} {i x : Nat} (hx : (bytesOf s)[i]? = some x) : ∃ h : i < s.size, (s.data[i]'h).toNat = x := by
  have hi : i < s.size := by
    have := (List.getElem?_eq_some_iff.1 hx).1
    rw [bytesOf_len] at this
    exact this
  refine ⟨hi, ?_⟩
  unfold bytesOf at hx
  rw [List.getElem?_map, Array.getElem?_toList, Array.getElem?_eq_getElem hi] at hx
  simpa using hx
theorem bytes_small {s : ByteArray} {i x : Nat} (hx : (bytesOf s)[i]? = some x) : x < 256 := by
  obtain ⟨h, e⟩ := bytes_at hx
  rw [← e]
  exact UInt8.toNat_lt _
theorem str_index (s : ByteArray) (i x : Nat) (hx : (bytesOf s)[i]? = some x) (w : World) : (Instr.index 9 (.string s) (.int .i64 (i : Int))).run Tryd.prog w = .ok (.int .u8 (x : Int)) w := by
  obtain ⟨hi, hx2⟩ := bytes_at hx
  go_simp
  rw [← hx2]
  rfl
theorem bytes_get (s : ByteArray) {i : Nat} (h : i < s.size) : ∃ x, (bytesOf s)[i]? = some x := ⟨_, List.getElem?_eq_getElem (by rw [bytesOf_len]; exact h)⟩
theorem tw_lt {p : Nat → Bool} : ∀ {l : List Nat} {i x : Nat}, i < (l.takeWhile p).length → l[i]? = some x → p x = true
  | [], i, x, h, _ => by simp at h
  | a :: l, i, x, h, hx => by
    cases hp : p a with
    | false => simp [hp] at h
    | true =>
      cases i with
      | zero => simp at hx; rw [← hx]; exact hp
      | succ i => simp [hp] at h; exact tw_lt h (by simpa using hx)
theorem tw_at {p : Nat → Bool} : ∀ {l : List Nat} {x : Nat}, l[(l.takeWhile p).length]? = some x → p x = false
  | [], x, h => by simp at h
  | a :: l, x, h => by
    cases hp : p a with
    | false => simp [hp] at h; rw [← h]; exact hp
    | true => simp [hp] at h; exact tw_at h
theorem tw_le {p : Nat → Bool} (l : List Nat) : (l.takeWhile p).length ≤ l.length := by
  have := List.takeWhile_append_dropWhile (p := p) (l := l)
  have h2 := congrArg List.length this
  rw [List.length_append] at h2
  omega
theorem str_neb {x y : ByteArray} (h : ¬ x = y) : (x.toList == y.toList) = false := by
  rw [beq_eq_false_iff_ne, ByteArray.toList_eq, ByteArray.toList_eq]
  intro e
  apply h
  apply ByteArray.ext
  exact Array.ext' e
theorem str_nil {x : ByteArray} (h : ¬ x = ⟨#[]⟩) : ¬ x.toList = [] := by
  have := str_neb h
  rw [beq_eq_false_iff_ne, ByteArray.toList_eq (bs := ⟨#[]⟩)] at this
  exact this
/-- A blank, a tab, a return, a comma. -/
def gapB (c : Nat) : Bool := c == 32 || (c == 9 || (c == 13 || c == 44))
def nwS (s : ByteArray) : Nat := ((bytesOf s).takeWhile gapB).length
def nwE (s : ByteArray) : Nat := nwS s + (((bytesOf s).drop (nwS s)).takeWhile (fun c => !gapB c)).length
/-- The first word, and what stands behind it. -/
def nw1 (s : ByteArray) : ByteArray := s.extract (nwS s) (nwE s)
def nw2 (s : ByteArray) : ByteArray := s.extract (nwE s) s.size
theorem nwS_le (s : ByteArray) : nwS s ≤ s.size := by have := tw_le (p := gapB) (bytesOf s); rw [bytesOf_len] at this; exact this
theorem nwE_le (s : ByteArray) : nwE s ≤ s.size := by
  have h := tw_le (p := fun c => !gapB c) ((bytesOf s).drop (nwS s))
  rw [List.length_drop, bytesOf_len] at h
  have := nwS_le s
  unfold nwE
  omega
theorem nwS_gap {s : ByteArray} {i x : Nat} (h : i < nwS s) (hx : (bytesOf s)[i]? = some x) : gapB x = true := tw_lt h hx
theorem nwS_at {s : ByteArray} {x : Nat} (hx : (bytesOf s)[nwS s]? = some x) : gapB x = false := tw_at hx
theorem nwE_word {s : ByteArray} {i x : Nat} (h0 : nwS s ≤ i) (h : i < nwE s) (hx : (bytesOf s)[i]? = some x) : gapB x = false := by
  have h1 := tw_lt (p := fun c => !gapB c) (l := (bytesOf s).drop (nwS s)) (i := i - nwS s) (x := x) (by unfold nwE at h; omega) (by rw [List.getElem?_drop, show nwS s + (i - nwS s) = i by omega]; exact hx)
  simpa using h1
theorem nwE_at {s : ByteArray} {x : Nat} (hx : (bytesOf s)[nwE s]? = some x) : gapB x = true := by
  have h1 := tw_at (p := fun c => !gapB c) (l := (bytesOf s).drop (nwS s)) (x := x) (by rw [List.getElem?_drop]; exact hx)
  simpa using h1
def digB (c : Nat) : Bool := decide (48 ≤ c) && decide (c ≤ 57)
end Go.Proofs.YthcmeboepedelaaDoor
