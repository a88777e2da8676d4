/-
  Walks of the document's times, Shift and Join: the move by 2^k bytes as 32 columns.
-/
import Derived.Test.YtchmfjendnaflaaDoorRefMove
import Derived.Test.YtchmfjendnaflaaDoorPoly
import Derived.Deep.RegionWith
import Derived.BigRegion
namespace FerryCrc
theorem bitsN_zero_val (n : Nat) : bitsN n 0 = 0 := by
  have := bitsN_xor n 0 0
  simp at this
  exact this
theorem col_step (s reg k : Nat) : bitsN s (reg % 2 ^ (k + 1)) = bitsN s (reg % 2 ^ k) ^^^ (if reg.testBit k then bitsN s (2 ^ k) else 0) := by
  rw [mod_succ_bit, bitsN_xor]
  congr 1
  split
  · rfl
  · exact bitsN_zero_val s
end FerryCrc
namespace Go.Proofs.YtchmfjendnaflaaDoor
open Go.RowKit FerryCrc

/-- A row of 32 cells, its first k filled. -/
def Ta (f : Nat → Nat) : Nat → Array Value
  | 0 => Array.replicate 32 (.int .u32 0)
  | k + 1 => (Ta f k).setIfInBounds k (.int .u32 (f k : Nat))
theorem Ta_size (f : Nat → Nat) (k : Nat) : (Ta f k).size = 32 := by
  induction k with
  | zero => simp [Ta]
  | succ k ih => simp [Ta, ih]
theorem Ta_cell (f : Nat → Nat) (k : Nat) : ∀ v ∈ Ta f k, ∃ n : Nat, v = .int .u32 (n : Int) := by
  induction k with
  | zero => intro v hv; simp [Ta] at hv; exact ⟨0, hv⟩
  | succ k ih =>
    intro v hv
    rw [Ta] at hv
    rcases Array.mem_or_eq_of_mem_setIfInBounds hv with h | h
    · exact ih v h
    · exact ⟨_, h⟩
theorem Ta_at (f : Nat → Nat) (k : Nat) : k ≤ 32 → ∀ j, j < k → (Ta f k)[j]? = some (.int .u32 (f j : Nat)) := by
  induction k with
  | zero => intro _ j hj; omega
  | succ k ih =>
    intro hk j hj
    rw [Ta, Array.getElem?_setIfInBounds]
    by_cases e : k = j
    · subst e; rw [if_pos rfl, if_pos (by rw [Ta_size]; omega)]
    · rw [if_neg e]; exact ih (by omega) j (by omega)
theorem Ta_one (f : Nat → Nat) (k : Nat) : (Ta f k).all (·.oneCell') = true := by
  rw [Array.all_eq_true_iff_forall_mem]
  intro v hv
  obtain ⟨n, rfl⟩ := Ta_cell f k v hv
  rfl
/-- The columns of the move by s bits. -/
def Col (s : Nat) : Array Value := Ta (fun i => bitsN s (2 ^ i)) 32
theorem Col_at (s j : Nat) (hj : j < 32) : (Col s)[j]? = some (.int .u32 (bitsN s (2 ^ j) : Nat)) := Ta_at _ 32 (Nat.le_refl _) j hj
theorem Col_size (s : Nat) : (Col s).size = 32 := Ta_size _ 32
theorem pow32 {k : Nat} (h : k < 32) : 2 ^ k < 4294967296 := Nat.pow_lt_pow_right (n := 32) (by decide) h
theorem zero52 (f : Nat → Nat) (w : World) : Sem.run Tryd.prog (zeroValue 70) w = .ok (.agg (Ta f 0)) w := by kernel_rfl
theorem info52 : (Tryd.prog.info? 70).map (·.size) = some 32 := by kernel_rfl

set_option maxRecDepth 100000 in
theorem refTimes_any (s reg : Nat) (w : World) (hr : reg < 4294967296) :
    Calls Tryd.prog 52 #[.agg (Col s), .int .u32 (reg : Int)] w fun e w' => e = .returned (.int .u32 (bitsN s reg : Nat)) ∧ Below w.heap.size w w' := by
  have HC := hide (Col_at s)
  have hsz := Col_size s
  have HB := hide ((Below.refl w.heap.size w).alloc (Nat.le_refl _) (.cells (Col s) 70))
  have HF : Hid (bitsN s (reg % 2 ^ 32) = bitsN s reg) := by unfold Hid; rw [Nat.mod_eq_of_lt (show reg < 2 ^ 32 from hr)]
  generalize Col s = C at *
  go_enter Tryd.func52, Tryd.ntmps52
  go_wp2
  go_loop [5, 6] (fun r i => ∃ k : Nat, k ≤ 32 ∧ i = .int .i64 k ∧ r = .int .u32 (bitsN s (reg % 2 ^ k) : Nat)) (fun _ i => 32 - (intOf i).toNat)
  case atStart => exact ⟨0, by omega, rfl, by rw [Nat.pow_zero, Nat.mod_one, bitsN_zero_val]; rfl⟩
  case round =>
    obtain ⟨k, hk, rfl, rfl⟩ := hrel
    by_cases hlt : k < 32
    · have hx : bitsN s (reg % 2 ^ k) < 4294967296 := bitsN_lt (Nat.lt_of_le_of_lt (Nat.mod_le _ _) hr)
      have hy : bitsN s (2 ^ k) < 4294967296 := bitsN_lt (pow32 hlt)
      have HS := hide (col_step s reg k)
      have hc : C[k]'(by omega) = .int .u32 (bitsN s (2 ^ k) : Nat) := (Array.getElem?_eq_some_iff.1 (HC.out k hlt)).2
      generalize bitsN s (reg % 2 ^ k) = x at *
      generalize bitsN s (2 ^ k) = y at *
      cases hbit : reg.testBit k
      · have hbt := and_bit hr hbit
        have HS2 : Hid (bitsN s (reg % 2 ^ (k + 1)) = x) := by unfold Hid; rw [HS.out, hbit]; simp
        clear HS hbit
        go_wp2
        go_round
        case rel => exact ⟨k + 1, by omega, by go_num, by rw [HS2.out]⟩
        case measure => simp [intOf]; omega
      · have hbt := and_bit hr hbit
        have HS2 : Hid (bitsN s (reg % 2 ^ (k + 1)) = x ^^^ y) := by unfold Hid; rw [HS.out, hbit]; simp
        clear HS hbit
        go_wp2
        go_round
        case rel => exact ⟨k + 1, by omega, by go_num, by rw [HS2.out, u32_xor_nat x y hx hy]⟩
        case measure => simp [intOf]; omega
    · have hk32 : k = 32 := by omega
      subst hk32
      rw [HF.out]
      go_wp2
      go_ret
      exact ⟨rfl, HB.out⟩
end Go.Proofs.YtchmfjendnaflaaDoor
