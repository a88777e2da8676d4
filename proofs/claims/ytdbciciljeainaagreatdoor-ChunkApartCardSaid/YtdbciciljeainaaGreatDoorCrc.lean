/-
  Walks of the program's moveBit, table, moveOn, More and Sum: they give what the bits' moves give.
-/
import Derived.Test.YtdbciciljeainaaGreatDoorBase
namespace Go.Proofs.YtdbciciljeainaaGreatDoor
open Go.RowKit FerryCrc

theorem moveBit_any (r : Nat) (w : World) (h : r < 4294967296) :
    Calls Tryz.prog 91 #[.int .u32 (r : Int)] w fun e w' => e = .returned (.int .u32 (bit1 r : Nat)) ∧ w = w' := by
  go_enter Tryz.func91, Tryz.ntmps91
  go_wp2
  · go_ret
    exact ⟨ret_int (val_one h (way_one h ‹_›)), rfl⟩
  · go_ret
    exact ⟨ret_int (val_zero (way_zero h ‹_›)), rfl⟩

def Tb : Nat → Array Value
  | 0 => Array.replicate 256 (.int .u32 0)
  | k + 1 => (Tb k).setIfInBounds k (.int .u32 (tab k : Nat))
theorem Tb_size (k : Nat) : (Tb k).size = 256 := by
  induction k with
  | zero => simp [Tb]
  | succ k ih => simp [Tb, ih]
theorem Tb_cell (k : Nat) : ∀ v ∈ Tb k, ∃ n : Nat, v = .int .u32 (n : Int) := by
  induction k with
  | zero => intro v hv; simp [Tb] at hv; exact ⟨0, hv⟩
  | succ k ih =>
    intro v hv
    rw [Tb] at hv
    rcases Array.mem_or_eq_of_mem_setIfInBounds hv with h | h
    · exact ih v h
    · exact ⟨_, h⟩
theorem Tb_at (k : Nat) : k ≤ 256 → ∀ j, j < k → (Tb k)[j]? = some (.int .u32 (tab j : Nat)) := by
  induction k with
  | zero => intro _ j hj; omega
  | succ k ih =>
    intro hk j hj
    rw [Tb, Array.getElem?_setIfInBounds]
    by_cases e : k = j
    · subst e; rw [if_pos rfl, if_pos (by rw [Tb_size]; omega)]
    · rw [if_neg e]; exact ih (by omega) j (by omega)
theorem Tb_one (k : Nat) : (Tb k).all (·.oneCell') = true := by
  rw [Array.all_eq_true_iff_forall_mem]
  intro v hv
  obtain ⟨n, rfl⟩ := Tb_cell k v hv
  rfl
theorem zero31 (w : World) : Sem.run Tryz.prog (zeroValue 154) w = .ok (.agg (Tb 0)) w := by kernel_rfl
theorem info31 : (Tryz.prog.info? 154).map (·.size) = some 256 := by kernel_rfl
set_option maxRecDepth 100000 in
theorem table_any (w : World)  :
    Calls Tryz.prog 90 #[] w fun e w' => e = .returned (.agg (Tb 256)) ∧ Below w.heap.size w w' := by
  have hz := zero31
  go_enter Tryz.func90, Tryz.ntmps90
  go_wp2
  go_loopw [4] (fun i wr => ∃ k : Nat, k ≤ 256 ∧ i = .int .i64 k ∧ wr = (w.alloc (.cells (Tb 0) 154)).alloc (.cells (Tb k) 154)) (fun i _ => 256 - (intOf i).toNat)
  case atStart => exact ⟨0, by omega, rfl, rfl⟩
  case round =>
    obtain ⟨k, hk, rfl, rfl⟩ := hrel
    clear hz
    by_cases hlt : k < 256
    · have hd : decide ((k : Int) < 256) = true := by simp; omega
      have h0 := Tb_size k
      have hTs : Hid (Tb (k + 1) = (Tb k).setIfInBounds k (.int .u32 (tab k : Nat))) := rfl
      generalize Tb k = T at *
      generalize Tb 0 = T0 at *
      go_wp2
      go_loop [3, 9] (fun t i => ∃ j : Nat, j ≤ 8 ∧ i = .int .i64 j ∧ t = .int .u32 (bitsN j k : Nat)) (fun _ i => 8 - (intOf i).toNat)
      case atStart => exact ⟨0, by omega, rfl, rfl⟩
      case round =>
        obtain ⟨j, hj, rfl, rfl⟩ := hrel
        have hx := bitsN_lt (n := j) (show k < 4294967296 by omega)
        have HS := hide (bitsN_succ j k)
        by_cases hlt : j < 8
        · generalize bitsN j k = x at *
          go_wp2_with (go_at_call 91; refine (moveBit_any _ _ hx).mono ?_; rintro e w' ⟨rfl, rfl⟩)
          go_round
          case rel => exact ⟨j + 1, by omega, by go_num, by rw [HS.out]⟩
          case measure => simp [intOf]; omega
        · have hk8 : j = 8 := by omega
          subst hk8
          go_wp2
          go_roundw
          case rel => exact ⟨k + 1, by omega, by go_num, by rw [hTs.out]; rfl⟩
          case measure => simp [intOf]; omega
    · have hk8 : k = 256 := by omega
      subst hk8
      have hs := Tb_size 256
      have ho := Tb_one 256
      have hs0 := Tb_size 0
      generalize hT : Tb 256 = T at *
      have HT := hide hT
      clear hT
      generalize Tb 0 = T0 at *
      go_wp2_with (first | (refine wpList_load_row rfl 154 (.tmp 1) rfl (w.heap.size + 1) rfl 154 T (0,0) _ (heap_alloc2_new _ _ _) Tryz.underlying154 rfl (by rw [hs]; exact info31) ?_) | (refine wpList_store_row rfl 154 (.tmp 0) (.tmp 18) rfl w.heap.size T rfl rfl 154 T0 (heap_alloc2_old _ _ _) (by rw [hs]; exact info31) (by rw [hs, hs0]) ho ?_))
      exact bodyPost_ret (v := .agg T) (by
        exact results_cell_row rfl _ _ w.heap.size 154 T (0, 0) _ rfl (setRow_heap _ _ _ _ _ _ (heap_alloc2_old _ _ _)) Tryz.underlying154 rfl (by rw [hs]; exact info31)) rfl ⟨by rw [HT.out], Below.refl _ _ |>.alloc (Nat.le_refl _) _ |>.alloc (by simp) _ |> below_setRow (Nat.le_refl _) _⟩

theorem val_tab {x i : Nat} (hx : x < 4294967296) (hi : i < 256) : bits .xor .u32 (tab i : Nat) ((x : Int) / 256) = ((tab i ^^^ x / 256 : Nat) : Int) := by
  have h := u32_xor_nat (tab i) (x / 256) (bitsN_lt (by omega)) (by omega)
  rw [← h]
  congr 1
theorem idx_xor (x c : Nat) (hc : c < 256) : ∃ i : Nat, bits .xor .u8 ((x : Int) % 256) (c : Int) = (i : Int) ∧ i < 256 ∧ i = x % 256 ^^^ c := by
  refine ⟨x % 256 ^^^ c, ?_, Nat.xor_lt_two_pow (n := 8) (by omega) hc, rfl⟩
  have := u8_xor_nat (x % 256) c (by omega) hc
  rw [← this]
  congr 1
set_option maxRecDepth 100000 in
theorem moveOn_any (r : Nat) (a : Option Addr) (len cap : Nat) (l : List Nat) (w : World) (h : r < 4294967296) (hs : Bts w a len cap l) :
    Calls Tryz.prog 89 #[.int .u32 (r : Int), .slice a len cap] w fun e w' => e = .returned (.int .u32 (mvs r l : Nat)) ∧ Below w.heap.size w w' := by
  have hz := zero31
  have hT1 := Tb_size 256
  have hT2 := Tb_one 256
  have hT3 := hide (Tb_at 256 (Nat.le_refl _))
  have hT0 := Tb_size 0
  have HC := table_any w
  have hm := hs.most
  generalize Tb 256 = T at *
  generalize Tb 0 = T0 at *
  have HCC := hide HC
  clear HC
  go_enter Tryz.func89, Tryz.ntmps89
  go_wp2_with (first | (go_at_call 90; refine HCC.out.mono ?_; rintro e w1 ⟨rfl, hb1⟩) | (refine wpList_store_row rfl 154 (.tmp 5) (.tmp 8) rfl _ T rfl rfl 154 T0 (heap_alloc_new _ _) (by rw [hT1]; exact info31) (by rw [hT1, hT0]) hT2 ?_; rw [World.setRow_alloc_new]))
  have hs2 := hs.below hb1
  have hend := (Below.alloc hb1 hb1.size (.cells T 154))
  have HE := hide hend
  clear hend hs hb1 HCC hz hT0
  go_loop [0, 11] (fun t i => ∃ k : Nat, k ≤ len ∧ i = .int .i64 k ∧ t = .int .u32 (mvs r (l.take k) : Nat)) (fun _ i => len - (intOf i).toNat)
  case atStart => exact ⟨0, by omega, rfl, rfl⟩
  case round =>
    obtain ⟨k, hk, rfl, rfl⟩ := hrel
    have hx := mvs_upto_lt (k := k) h hs2.small
    by_cases hlt : k < len
    · obtain ⟨b, off, rfl, c, hl, hc⟩ := hs2.cell k hlt
      have hc8 : c < 256 := hs2.small c (List.mem_of_getElem? hl)
      have HS := hide (mvs_next (r := r) hl)
      have hblt := block_lt_of_cell hc
      clear hl hs2
      generalize mvs r (l.take k) = x at *
      obtain ⟨i, hi, hi8, hie⟩ := idx_xor x c hc8
      have HI := hide hie
      clear hie
      have hti : T[i]'(by omega) = .int .u32 (tab i : Nat) := (Array.getElem?_eq_some_iff.1 (hT3.out i hi8)).2
      go_wp2
      go_round
      case rel => exact ⟨k + 1, by omega, by go_num, by rw [HS.out, ← tab_way, ← HI.out, val_tab hx hi8]⟩
      case measure => simp [intOf]; omega
    · have hk8 : k = len := by omega
      subst hk8
      go_wp2
      go_ret
      exact ⟨ret_int (by rw [List.take_of_length_le (by rw [hs2.size]; exact Nat.le_refl _)]), HE.out⟩

theorem more_any (r : Nat) (a : Option Addr) (len cap : Nat) (l : List Nat) (w : World) (h : r < 4294967296) (hs : Bts w a len cap l) :
    Calls Tryz.prog 83 #[.int .u32 (r : Int), .slice a len cap] w fun e w' => e = .returned (.int .u32 (moreOf r l : Nat)) ∧ Below w.heap.size w w' := by
  have hr := mvs_lt (not_lt h) hs.small
  have HC := hide (moveOn_any (r ^^^ 4294967295) a len cap l w (not_lt h) hs)
  have HR := hide (not_xor hr)
  have HQ : Hid (moreOf r l = mvs (r ^^^ 4294967295) l ^^^ 4294967295) := rfl
  have HN := hide (not_xor h)
  clear hr hs h
  generalize moreOf r l = m at *
  generalize r ^^^ 4294967295 = n at *
  generalize mvs n l = x at *
  go_enter Tryz.func83, Tryz.ntmps83
  go_wp2_with fail
  rw [HN.out]
  refine HC.out.mono ?_
  rintro e w' ⟨rfl, hb⟩
  go_wp2
  go_ret
  exact ⟨ret_int (by rw [HR.out, HQ.out]), hb⟩

theorem sum_any (a : Option Addr) (len cap : Nat) (l : List Nat) (w : World) (hs : Bts w a len cap l) :
    Calls Tryz.prog 67 #[.slice a len cap] w fun e w' => e = .returned (.int .u32 (sumOf l : Nat)) ∧ Below w.heap.size w w' := by
  have HC := more_any 0 a len cap l w (by decide) hs
  have hq : moreOf 0 l = sumOf l := rfl
  rw [hq] at HC
  have HH := hide HC
  clear HC
  go_enter Tryz.func67, Tryz.ntmps67
  go_wp2_with (go_at_call 83; refine HH.out.mono ?_; rintro e w' ⟨rfl, hb⟩)
  go_ret
  exact ⟨rfl, hb⟩

end Go.Proofs.YtdbciciljeainaaGreatDoor
