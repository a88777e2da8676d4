/- Walk of the table: the program's table holds, for each byte, what eight moves make of it. -/
import Derived.Test.YtlncioipgjcmbaaW1
import Derived.Laws.Rows
import Derived.Deep.WholeRow
namespace Go.Proofs.Ytlncioipgjcmbaa
open Go.RowKit FerryCrc
theorem below_setRow {B g : Nat} {a w : World} (hg : B ≤ g) (cs : Array Value) (h : Below B a w) : Below B a (w.setRow g cs) :=
  h.trans ⟨rfl, rfl, rfl, by simp, fun k hk => setRow_other w g k cs (by omega)⟩
def Tb : Nat → Array Value
  | 0 => Array.replicate 256 (.int .u32 0)
  | k + 1 => (Tb k).setIfInBounds k (.int .u32 (tab k : Nat))
theorem Tb_size (k : Nat) : (Tb k).size = 256 := by
  induction k with
  | zero => simp [Tb]
  | succ k ih => simp [Tb, ih]
theorem Tb_cell (k : Nat) : ∀ v ∈ Tb k, ∃ n : Nat, v = .int .u32 (n : Int) := by
  induction k with
  | zero => intro v hv; simp [Tb] at hv; exact ⟨0, hv⟩
  | succ k ih =>
    intro v hv
    rw [Tb] at hv
    rcases Array.mem_or_eq_of_mem_setIfInBounds hv with h | h
    · exact ih v h
    · exact ⟨_, h⟩
theorem Tb_at (k : Nat) : k ≤ 256 → ∀ j, j < k → (Tb k)[j]? = some (.int .u32 (tab j : Nat)) := by
  induction k with
  | zero => intro _ j hj; omega
  | succ k ih =>
    intro hk j hj
    rw [Tb, Array.getElem?_setIfInBounds]
    by_cases e : k = j
    · subst e; rw [if_pos rfl, if_pos (by rw [Tb_size]; omega)]
    · rw [if_neg e]; exact ih (by omega) j (by omega)
theorem Tb_one (k : Nat) : (Tb k).all (·.oneCell') = true := by
  rw [Array.all_eq_true_iff_forall_mem]
  intro v hv
  obtain ⟨n, rfl⟩ := Tb_cell k v hv
  rfl
theorem zero31 (w : World) : Sem.run Try.prog (zeroValue 31) w = .ok (.agg (Tb 0)) w := by kernel_rfl
theorem info31 : (Try.prog.info? 31).map (·.size) = some 256 := by kernel_rfl
set_option maxRecDepth 100000 in
theorem table_any (w : World)  :
    Calls Try.prog 12 #[] w fun e w' => e = .returned (.agg (Tb 256)) ∧ Below w.heap.size w w' := by
  have hz := zero31
  go_enter Try.func12, Try.ntmps12
  go_wp2
  go_loopw [4] (fun i wr => ∃ k : Nat, k ≤ 256 ∧ i = .int .i64 k ∧ wr = (w.alloc (.cells (Tb 0) 31)).alloc (.cells (Tb k) 31)) (fun i _ => 256 - (intOf i).toNat)
  case atStart => exact ⟨0, by omega, rfl, rfl⟩
  case round =>
    obtain ⟨k, hk, rfl, rfl⟩ := hrel
    clear hz
    by_cases hlt : k < 256
    · have hd : decide ((k : Int) < 256) = true := by simp; omega
      have h0 := Tb_size k
      have hTs : Hid (Tb (k + 1) = (Tb k).setIfInBounds k (.int .u32 (tab k : Nat))) := rfl
      generalize Tb k = T at *
      generalize Tb 0 = T0 at *
      go_wp2
      go_loop [3, 9] (fun t i => ∃ j : Nat, j ≤ 8 ∧ i = .int .i64 j ∧ t = .int .u32 (bitsN j k : Nat)) (fun _ i => 8 - (intOf i).toNat)
      case atStart => exact ⟨0, by omega, rfl, rfl⟩
      case round =>
        obtain ⟨j, hj, rfl, rfl⟩ := hrel
        have hx := bitsN_lt (n := j) (show k < 4294967296 by omega)
        have HS := hide (bitsN_succ j k)
        by_cases hlt : j < 8
        · generalize bitsN j k = x at *
          go_wp2_with (go_at_call 13; refine (moveBit_any _ _ hx).mono ?_; rintro e w' ⟨rfl, rfl⟩)
          go_round
          case rel => exact ⟨j + 1, by omega, by go_num, by rw [HS.out]⟩
          case measure => simp [intOf]; omega
        · have hk8 : j = 8 := by omega
          subst hk8
          go_wp2
          go_roundw
          case rel => exact ⟨k + 1, by omega, by go_num, by rw [hTs.out]; rfl⟩
          case measure => simp [intOf]; omega
    · have hk8 : k = 256 := by omega
      subst hk8
      have hs := Tb_size 256
      have ho := Tb_one 256
      have hs0 := Tb_size 0
      generalize hT : Tb 256 = T at *
      have HT := hide hT
      clear hT
      generalize Tb 0 = T0 at *
      go_wp2_with (first | (refine wpList_load_row rfl 31 (.tmp 1) rfl (w.heap.size + 1) rfl 31 T (0,0) _ (heap_alloc2_new _ _ _) Try.underlying31 rfl (by rw [hs]; exact info31) ?_) | (refine wpList_store_row rfl 31 (.tmp 0) (.tmp 18) rfl w.heap.size T rfl rfl 31 T0 (heap_alloc2_old _ _ _) (by rw [hs]; exact info31) (by rw [hs, hs0]) ho ?_))
      exact bodyPost_ret (v := .agg T) (by
        exact results_cell_row rfl _ _ w.heap.size 31 T (0, 0) _ rfl (setRow_heap _ _ _ _ _ _ (heap_alloc2_old _ _ _)) Try.underlying31 rfl (by rw [hs]; exact info31)) rfl ⟨by rw [HT.out], Below.refl _ _ |>.alloc (Nat.le_refl _) _ |>.alloc (by simp) _ |> below_setRow (Nat.le_refl _) _⟩
end Go.Proofs.Ytlncioipgjcmbaa
