/-
  The law's fits: can a put be written?
  The bytes of a put, and what of them is read back.
-/
import Derived.Test.YtkkogkdalcigkaaDoorWireStaysWalk
import Derived.Test.YtkkogkdalcigkaaDoorWwPut
import Derived.Test.YtkkogkdalcigkaaDoorRdBoth
namespace Go.Proofs.YtkkogkdalcigkaaDoor
open Classical
open Go.RowKit FerryCrc
set_option linter.unusedVariables false
set_option linter.unusedSimpArgs false

/-- The put can be written. -/
def Fit (o : Op7) : Prop :=
  (o.kind = 1 ∧ 0 ≤ o.n ∧ o.n ≤ 255) ∨ (o.kind = 2 ∧ 0 ≤ o.n ∧ o.n ≤ 65535) ∨ (o.kind = 3 ∧ 0 ≤ o.n ∧ o.n ≤ 4294967295) ∨ o.kind = 4 ∨ o.kind = 5 ∨ (o.kind = 6 ∧ o.s.size ≤ 65535) ∨ (o.kind = 7 ∧ 1 ≤ o.n ∧ o.n ≤ 255 ∧ o.s.size ≤ 65535)

set_option maxRecDepth 100000 in
set_option maxHeartbeats 4000000 in
theorem fits_any (kind : Int) (sec : Bool) (cur N lo hi : Int) (S : ByteArray) (w : World) :
    Calls Tryd.prog 54 #[.agg #[.int .i64 kind, .bool sec, .int .i64 cur, .int .i64 N, .int .i64 lo, .int .i64 hi, .string S]] w fun e w' => e = .returned (.bool (decide (Fit ⟨kind, sec, cur, N, lo, hi, S⟩))) ∧ Below w.heap.size w w' := by
  unfold Fit
  rcases (show kind = 1 ∨ kind = 2 ∨ kind = 3 ∨ kind = 4 ∨ kind = 5 ∨ kind = 6 ∨ kind = 7 ∨ (kind ≠ 1 ∧ kind ≠ 2 ∧ kind ≠ 3 ∧ kind ≠ 4 ∧ kind ≠ 5 ∧ kind ≠ 6 ∧ kind ≠ 7) by omega) with rfl | rfl | rfl | rfl | rfl | rfl | rfl | ⟨k1, k2, k3, k4, k5, k6, k7⟩
  all_goals
    go_enter Tryd.func54, Tryd.ntmps54
  all_goals go_wp2
  all_goals go_ret
  all_goals refine ⟨?_, (Below.refl _ _).alloc (Nat.le_refl _) _⟩
  all_goals show Ending.returned (.bool _) = Ending.returned (.bool _)
  all_goals refine congrArg (fun x => Ending.returned (.bool x)) ?_
  all_goals rw [Bool.eq_iff_iff]
  all_goals simp
  all_goals try omega
  all_goals try exact ⟨fun h => by omega, fun h => by have := of_decide_eq_true h; omega⟩
end Go.Proofs.YtkkogkdalcigkaaDoor
namespace Go.Proofs.YtkkogkdalcigkaaDoor
open Classical
open Go.RowKit FerryCrc
set_option linter.unusedVariables false
set_option linter.unusedSimpArgs false

theorem nbe_be (k n : Nat) (hk : k = 1 ∨ k = 2 ∨ k = 4) (h : n < 256 ^ k) : nbe (be n k) = n := by
  rcases hk with rfl | rfl | rfl
  · simp [be, nbe] at h ⊢; omega
  · simp [be, nbe] at h ⊢; omega
  · simp [be, nbe] at h ⊢; omega
theorem cut_pre {L X A B R : List Nat} {p : Nat} (h : L.drop p ++ X = A ++ (B ++ R)) (hl : p + A.length + B.length ≤ L.length) : cut L (p + A.length) B.length = B := by
  unfold cut
  have h1 : ((L.drop p ++ X).drop A.length).take B.length = B := by
    rw [h, List.drop_left, List.take_left]
  rw [List.drop_append_of_le_length (by rw [List.length_drop]; omega), List.take_append_of_le_length (by rw [List.length_drop, List.length_drop]; omega), List.drop_drop] at h1
  exact h1
theorem cut_pre0 {L X B R : List Nat} {p : Nat} (h : L.drop p ++ X = B ++ R) (hl : p + B.length ≤ L.length) : cut L p B.length = B := by
  have := cut_pre (A := []) (B := B) (R := R) h (by simpa using hl)
  simpa using this

/-- The bytes of a put. -/
def enc1 (o : Op7) : List Nat :=
  if o.kind = 1 then be o.n.toNat 1 else if o.kind = 2 then be o.n.toNat 2 else if o.kind = 3 then be o.n.toNat 4
  else if o.kind = 4 then be (bits .and .i64 o.n 1).toNat 1 else if o.kind = 5 then bytesOf o.s else if o.kind = 6 then be o.s.size 2 ++ bytesOf o.s else encR o.n.toNat (bytesOf o.s)
/-- The bytes of the puts that can be written. -/
def encs (l : List Op7) [(o : Op7) → Decidable (Fit o)] : List Nat := l.flatMap fun o => if Fit o then enc1 o else []

/-- What reading one put back gives: it came back, and the cursor stands behind it; or it is cut off, and the call says so. -/
def One (w : World) (c g len p : Nat) (L : List Nat) (m : Nat) (e : Ending) (w' : World) : Prop :=
  ∃ (code : Int) (ok : Bool) (p' : Nat), e = .returned (.tuple #[.int .i64 code, .bool ok]) ∧ Cur w' c g len p' len L ∧ Frm (fun j => j = c) w w' ∧ ((m ≤ len - p ∧ code = 0 ∧ ok = true ∧ p' = p + m) ∨ (len - p < m ∧ (code = 1 ∨ code = 5)))
end Go.Proofs.YtkkogkdalcigkaaDoor
