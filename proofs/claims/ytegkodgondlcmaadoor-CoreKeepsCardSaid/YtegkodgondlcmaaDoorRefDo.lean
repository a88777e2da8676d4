/-
  Contracts of the document's Do, one for each operation.
-/
import Derived.Test.YtegkodgondlcmaaDoorRefDivide
namespace Go.Proofs.YtegkodgondlcmaaDoor
open Go.RowKit FerryAlu
set_option linter.unusedVariables false

set_option maxRecDepth 100000 in
set_option maxHeartbeats 400000 in
theorem refDo_add (b c : Nat) (w : World) (hb : b < 4294967296) (hc : c < 4294967296) :
    Calls Tryd.prog 34 #[.int .i64 1, .int .u32 (b : Int), .int .u32 (c : Int)] w fun e w' => e = .returned (.tuple #[.int .u32 ((b + c) % 4294967296 : Nat), .int .i64 0]) ∧ Below w.heap.size w w' := by
  have HR := hide (fun w => row_any b w hb)
  have HI := hide (size62 b.testBit)
  have HA := hide (Tb_all b.testBit 32)
  have HS := hide (Tb_size b.testBit 32)
  have en : ((c : Int)).tmod 32 = ((c % 32 : Nat) : Int) := by rw [Int.tmod_eq_emod_of_nonneg (by omega)]; omega
  have en2 : (c : Int) % 32 = ((c % 32 : Nat) : Int) := by omega
  have H := hide (fun w => refAdd_any b c false w hb hc)
  rw [show b + c + Bool.toNat false = b + c from rfl] at H
  generalize (b + c) % 4294967296 = r at *
  generalize decide (4294967296 ≤ b + c) = q at *
  obtain ⟨n, hn⟩ : ∃ n, c % 32 = n := ⟨_, rfl⟩
  have hn32 : n < 32 := by omega
  rw [hn] at en en2 
  clear hn
  have HEn := hide en2
  clear en en2
  go_enter Tryd.func34, Tryd.ntmps34
  go_wp2_with fail
  rw [HEn.out]
  refine Calls.mono (HR.out _) ?_
  rintro e w1 ⟨rfl, b1⟩
  have B1 := hide b1
  have HR0 := hide (Rw.new w1 b.testBit)
  have HB0 : Hid (Below w.heap.size w (w1.alloc (.cells (Tb b.testBit 32) 102))) := b1.alloc b1.size _
  have HG := hide (heap_alloc_new w1 (.cells (Tb b.testBit 32) 102))
  clear b1 HR
  generalize hTg : Tb b.testBit 32 = T at *
  clear hTg
  go_wp2_with (refine wpList_store_row rfl 102 _ _ rfl w1.heap.size T rfl rfl 102 _ (zero_heap w1) HI.out (zero_size HS.out) HA.out ?_)
  rw [zero_lay]
  refine Calls.mono (H.out _) ?_
  rintro e w2 ⟨rfl, b2⟩
  go_wp2
  go_ret2
  exact ⟨rfl, HB0.out.trans (b2.mono HB0.out.size)⟩

set_option maxRecDepth 100000 in
set_option maxHeartbeats 400000 in
theorem refDo_sub (b c : Nat) (w : World) (hb : b < 4294967296) (hc : c < 4294967296) :
    Calls Tryd.prog 34 #[.int .i64 2, .int .u32 (b : Int), .int .u32 (c : Int)] w fun e w' => e = .returned (.tuple #[.int .u32 ((b + 4294967296 - c) % 4294967296 : Nat), .int .i64 0]) ∧ Below w.heap.size w w' := by
  have HR := hide (fun w => row_any b w hb)
  have HI := hide (size62 b.testBit)
  have HA := hide (Tb_all b.testBit 32)
  have HS := hide (Tb_size b.testBit 32)
  have en : ((c : Int)).tmod 32 = ((c % 32 : Nat) : Int) := by rw [Int.tmod_eq_emod_of_nonneg (by omega)]; omega
  have en2 : (c : Int) % 32 = ((c % 32 : Nat) : Int) := by omega
  have H := hide (fun w => refSub_any b c false w hb hc)
  rw [show (b + 8589934592 - c - Bool.toNat false) % 4294967296 = (b + 4294967296 - c) % 4294967296 by simp; omega] at H
  generalize (b + 4294967296 - c) % 4294967296 = r at *
  generalize decide (b < c + Bool.toNat false) = q at *
  obtain ⟨n, hn⟩ : ∃ n, c % 32 = n := ⟨_, rfl⟩
  have hn32 : n < 32 := by omega
  rw [hn] at en en2 
  clear hn
  have HEn := hide en2
  clear en en2
  go_enter Tryd.func34, Tryd.ntmps34
  go_wp2_with fail
  rw [HEn.out]
  refine Calls.mono (HR.out _) ?_
  rintro e w1 ⟨rfl, b1⟩
  have B1 := hide b1
  have HR0 := hide (Rw.new w1 b.testBit)
  have HB0 : Hid (Below w.heap.size w (w1.alloc (.cells (Tb b.testBit 32) 102))) := b1.alloc b1.size _
  have HG := hide (heap_alloc_new w1 (.cells (Tb b.testBit 32) 102))
  clear b1 HR
  generalize hTg : Tb b.testBit 32 = T at *
  clear hTg
  go_wp2_with (refine wpList_store_row rfl 102 _ _ rfl w1.heap.size T rfl rfl 102 _ (zero_heap w1) HI.out (zero_size HS.out) HA.out ?_)
  rw [zero_lay]
  refine Calls.mono (H.out _) ?_
  rintro e w2 ⟨rfl, b2⟩
  go_wp2
  go_ret2
  exact ⟨rfl, HB0.out.trans (b2.mono HB0.out.size)⟩

set_option maxRecDepth 100000 in
set_option maxHeartbeats 400000 in
theorem refDo_and (b c : Nat) (w : World) (hb : b < 4294967296) (hc : c < 4294967296) :
    Calls Tryd.prog 34 #[.int .i64 3, .int .u32 (b : Int), .int .u32 (c : Int)] w fun e w' => e = .returned (.tuple #[.int .u32 (b &&& c : Nat), .int .i64 0]) ∧ Below w.heap.size w w' := by
  have HR := hide (fun w => row_any b w hb)
  have HI := hide (size62 b.testBit)
  have HA := hide (Tb_all b.testBit 32)
  have HS := hide (Tb_size b.testBit 32)
  have en : ((c : Int)).tmod 32 = ((c % 32 : Nat) : Int) := by rw [Int.tmod_eq_emod_of_nonneg (by omega)]; omega
  have en2 : (c : Int) % 32 = ((c % 32 : Nat) : Int) := by omega
  have H := hide (fun w => logic_and b c w hb hc)
  generalize b &&& c = r at *
  obtain ⟨n, hn⟩ : ∃ n, c % 32 = n := ⟨_, rfl⟩
  have hn32 : n < 32 := by omega
  rw [hn] at en en2 
  clear hn
  have HEn := hide en2
  clear en en2
  go_enter Tryd.func34, Tryd.ntmps34
  go_wp2_with fail
  rw [HEn.out]
  refine Calls.mono (HR.out _) ?_
  rintro e w1 ⟨rfl, b1⟩
  have B1 := hide b1
  have HR0 := hide (Rw.new w1 b.testBit)
  have HB0 : Hid (Below w.heap.size w (w1.alloc (.cells (Tb b.testBit 32) 102))) := b1.alloc b1.size _
  have HG := hide (heap_alloc_new w1 (.cells (Tb b.testBit 32) 102))
  clear b1 HR
  generalize hTg : Tb b.testBit 32 = T at *
  clear hTg
  go_wp2_with (refine wpList_store_row rfl 102 _ _ rfl w1.heap.size T rfl rfl 102 _ (zero_heap w1) HI.out (zero_size HS.out) HA.out ?_)
  rw [zero_lay]
  refine Calls.mono (H.out _) ?_
  rintro e w2 ⟨rfl, b2⟩
  go_wp2
  go_ret2
  exact ⟨rfl, HB0.out.trans (b2.mono HB0.out.size)⟩

set_option maxRecDepth 100000 in
set_option maxHeartbeats 400000 in
theorem refDo_or (b c : Nat) (w : World) (hb : b < 4294967296) (hc : c < 4294967296) :
    Calls Tryd.prog 34 #[.int .i64 4, .int .u32 (b : Int), .int .u32 (c : Int)] w fun e w' => e = .returned (.tuple #[.int .u32 (b ||| c : Nat), .int .i64 0]) ∧ Below w.heap.size w w' := by
  have HR := hide (fun w => row_any b w hb)
  have HI := hide (size62 b.testBit)
  have HA := hide (Tb_all b.testBit 32)
  have HS := hide (Tb_size b.testBit 32)
  have en : ((c : Int)).tmod 32 = ((c % 32 : Nat) : Int) := by rw [Int.tmod_eq_emod_of_nonneg (by omega)]; omega
  have en2 : (c : Int) % 32 = ((c % 32 : Nat) : Int) := by omega
  have H := hide (fun w => logic_or b c w hb hc)
  generalize b ||| c = r at *
  obtain ⟨n, hn⟩ : ∃ n, c % 32 = n := ⟨_, rfl⟩
  have hn32 : n < 32 := by omega
  rw [hn] at en en2 
  clear hn
  have HEn := hide en2
  clear en en2
  go_enter Tryd.func34, Tryd.ntmps34
  go_wp2_with fail
  rw [HEn.out]
  refine Calls.mono (HR.out _) ?_
  rintro e w1 ⟨rfl, b1⟩
  have B1 := hide b1
  have HR0 := hide (Rw.new w1 b.testBit)
  have HB0 : Hid (Below w.heap.size w (w1.alloc (.cells (Tb b.testBit 32) 102))) := b1.alloc b1.size _
  have HG := hide (heap_alloc_new w1 (.cells (Tb b.testBit 32) 102))
  clear b1 HR
  generalize hTg : Tb b.testBit 32 = T at *
  clear hTg
  go_wp2_with (refine wpList_store_row rfl 102 _ _ rfl w1.heap.size T rfl rfl 102 _ (zero_heap w1) HI.out (zero_size HS.out) HA.out ?_)
  rw [zero_lay]
  refine Calls.mono (H.out _) ?_
  rintro e w2 ⟨rfl, b2⟩
  go_wp2
  go_ret2
  exact ⟨rfl, HB0.out.trans (b2.mono HB0.out.size)⟩

set_option maxRecDepth 100000 in
set_option maxHeartbeats 400000 in
theorem refDo_xor (b c : Nat) (w : World) (hb : b < 4294967296) (hc : c < 4294967296) :
    Calls Tryd.prog 34 #[.int .i64 5, .int .u32 (b : Int), .int .u32 (c : Int)] w fun e w' => e = .returned (.tuple #[.int .u32 (b ^^^ c : Nat), .int .i64 0]) ∧ Below w.heap.size w w' := by
  have HR := hide (fun w => row_any b w hb)
  have HI := hide (size62 b.testBit)
  have HA := hide (Tb_all b.testBit 32)
  have HS := hide (Tb_size b.testBit 32)
  have en : ((c : Int)).tmod 32 = ((c % 32 : Nat) : Int) := by rw [Int.tmod_eq_emod_of_nonneg (by omega)]; omega
  have en2 : (c : Int) % 32 = ((c % 32 : Nat) : Int) := by omega
  have H := hide (fun w => logic_xor b c w hb hc)
  generalize b ^^^ c = r at *
  obtain ⟨n, hn⟩ : ∃ n, c % 32 = n := ⟨_, rfl⟩
  have hn32 : n < 32 := by omega
  rw [hn] at en en2 
  clear hn
  have HEn := hide en2
  clear en en2
  go_enter Tryd.func34, Tryd.ntmps34
  go_wp2_with fail
  rw [HEn.out]
  refine Calls.mono (HR.out _) ?_
  rintro e w1 ⟨rfl, b1⟩
  have B1 := hide b1
  have HR0 := hide (Rw.new w1 b.testBit)
  have HB0 : Hid (Below w.heap.size w (w1.alloc (.cells (Tb b.testBit 32) 102))) := b1.alloc b1.size _
  have HG := hide (heap_alloc_new w1 (.cells (Tb b.testBit 32) 102))
  clear b1 HR
  generalize hTg : Tb b.testBit 32 = T at *
  clear hTg
  go_wp2_with (refine wpList_store_row rfl 102 _ _ rfl w1.heap.size T rfl rfl 102 _ (zero_heap w1) HI.out (zero_size HS.out) HA.out ?_)
  rw [zero_lay]
  refine Calls.mono (H.out _) ?_
  rintro e w2 ⟨rfl, b2⟩
  go_wp2
  go_ret2
  exact ⟨rfl, HB0.out.trans (b2.mono HB0.out.size)⟩

set_option maxRecDepth 100000 in
set_option maxHeartbeats 400000 in
theorem refDo_mul (b c : Nat) (w : World) (hb : b < 4294967296) (hc : c < 4294967296) :
    Calls Tryd.prog 34 #[.int .i64 9, .int .u32 (b : Int), .int .u32 (c : Int)] w fun e w' => e = .returned (.tuple #[.int .u32 (b * c % 4294967296 : Nat), .int .i64 0]) ∧ Below w.heap.size w w' := by
  have HR := hide (fun w => row_any b w hb)
  have HI := hide (size62 b.testBit)
  have HA := hide (Tb_all b.testBit 32)
  have HS := hide (Tb_size b.testBit 32)
  have en : ((c : Int)).tmod 32 = ((c % 32 : Nat) : Int) := by rw [Int.tmod_eq_emod_of_nonneg (by omega)]; omega
  have en2 : (c : Int) % 32 = ((c % 32 : Nat) : Int) := by omega
  have H := hide (fun w => refMul_any b c w hb hc)
  generalize b * c % 4294967296 = r at *
  generalize b * c / 4294967296 = q at *
  obtain ⟨n, hn⟩ : ∃ n, c % 32 = n := ⟨_, rfl⟩
  have hn32 : n < 32 := by omega
  rw [hn] at en en2 
  clear hn
  have HEn := hide en2
  clear en en2
  go_enter Tryd.func34, Tryd.ntmps34
  go_wp2_with fail
  rw [HEn.out]
  refine Calls.mono (HR.out _) ?_
  rintro e w1 ⟨rfl, b1⟩
  have B1 := hide b1
  have HR0 := hide (Rw.new w1 b.testBit)
  have HB0 : Hid (Below w.heap.size w (w1.alloc (.cells (Tb b.testBit 32) 102))) := b1.alloc b1.size _
  have HG := hide (heap_alloc_new w1 (.cells (Tb b.testBit 32) 102))
  clear b1 HR
  generalize hTg : Tb b.testBit 32 = T at *
  clear hTg
  go_wp2_with (refine wpList_store_row rfl 102 _ _ rfl w1.heap.size T rfl rfl 102 _ (zero_heap w1) HI.out (zero_size HS.out) HA.out ?_)
  rw [zero_lay]
  refine Calls.mono (H.out _) ?_
  rintro e w2 ⟨rfl, b2⟩
  go_wp2
  go_ret2
  exact ⟨rfl, HB0.out.trans (b2.mono HB0.out.size)⟩

set_option maxRecDepth 100000 in
set_option maxHeartbeats 400000 in
theorem refDo_divu (b c : Nat) (w : World) (hb : b < 4294967296) (hc : c < 4294967296) (h0 : c ≠ 0) :
    Calls Tryd.prog 34 #[.int .i64 10, .int .u32 (b : Int), .int .u32 (c : Int)] w fun e w' => e = .returned (.tuple #[.int .u32 (b / c : Nat), .int .i64 0]) ∧ Below w.heap.size w w' := by
  have HR := hide (fun w => row_any b w hb)
  have HI := hide (size62 b.testBit)
  have HA := hide (Tb_all b.testBit 32)
  have HS := hide (Tb_size b.testBit 32)
  have en : ((c : Int)).tmod 32 = ((c % 32 : Nat) : Int) := by rw [Int.tmod_eq_emod_of_nonneg (by omega)]; omega
  have en2 : (c : Int) % 32 = ((c % 32 : Nat) : Int) := by omega
  have H := hide (fun w => divide_10 b c w hb hc h0)
  generalize b / c = r at *
  obtain ⟨n, hn⟩ : ∃ n, c % 32 = n := ⟨_, rfl⟩
  have hn32 : n < 32 := by omega
  rw [hn] at en en2 
  clear hn
  have HEn := hide en2
  clear en en2
  go_enter Tryd.func34, Tryd.ntmps34
  go_wp2_with fail
  rw [HEn.out]
  refine Calls.mono (HR.out _) ?_
  rintro e w1 ⟨rfl, b1⟩
  have B1 := hide b1
  have HR0 := hide (Rw.new w1 b.testBit)
  have HB0 : Hid (Below w.heap.size w (w1.alloc (.cells (Tb b.testBit 32) 102))) := b1.alloc b1.size _
  have HG := hide (heap_alloc_new w1 (.cells (Tb b.testBit 32) 102))
  clear b1 HR
  generalize hTg : Tb b.testBit 32 = T at *
  clear hTg
  go_wp2_with (refine wpList_store_row rfl 102 _ _ rfl w1.heap.size T rfl rfl 102 _ (zero_heap w1) HI.out (zero_size HS.out) HA.out ?_)
  rw [zero_lay]
  refine Calls.mono (H.out _) ?_
  rintro e w2 ⟨rfl, b2⟩
  go_wp2
  go_ret2
  exact ⟨rfl, HB0.out.trans (b2.mono HB0.out.size)⟩

set_option maxRecDepth 100000 in
set_option maxHeartbeats 400000 in
theorem refDo_divs (b c : Nat) (w : World) (hb : b < 4294967296) (hc : c < 4294967296) (h0 : c ≠ 0) :
    Calls Tryd.prog 34 #[.int .i64 11, .int .u32 (b : Int), .int .u32 (c : Int)] w fun e w' => e = .returned (.tuple #[.int .u32 (un ((sg b).tdiv (sg c)) : Nat), .int .i64 0]) ∧ Below w.heap.size w w' := by
  have HR := hide (fun w => row_any b w hb)
  have HI := hide (size62 b.testBit)
  have HA := hide (Tb_all b.testBit 32)
  have HS := hide (Tb_size b.testBit 32)
  have en : ((c : Int)).tmod 32 = ((c % 32 : Nat) : Int) := by rw [Int.tmod_eq_emod_of_nonneg (by omega)]; omega
  have en2 : (c : Int) % 32 = ((c % 32 : Nat) : Int) := by omega
  have H := hide (fun w => divide_11 b c w hb hc h0)
  generalize un ((sg b).tdiv (sg c)) = r at *
  obtain ⟨n, hn⟩ : ∃ n, c % 32 = n := ⟨_, rfl⟩
  have hn32 : n < 32 := by omega
  rw [hn] at en en2 
  clear hn
  have HEn := hide en2
  clear en en2
  go_enter Tryd.func34, Tryd.ntmps34
  go_wp2_with fail
  rw [HEn.out]
  refine Calls.mono (HR.out _) ?_
  rintro e w1 ⟨rfl, b1⟩
  have B1 := hide b1
  have HR0 := hide (Rw.new w1 b.testBit)
  have HB0 : Hid (Below w.heap.size w (w1.alloc (.cells (Tb b.testBit 32) 102))) := b1.alloc b1.size _
  have HG := hide (heap_alloc_new w1 (.cells (Tb b.testBit 32) 102))
  clear b1 HR
  generalize hTg : Tb b.testBit 32 = T at *
  clear hTg
  go_wp2_with (refine wpList_store_row rfl 102 _ _ rfl w1.heap.size T rfl rfl 102 _ (zero_heap w1) HI.out (zero_size HS.out) HA.out ?_)
  rw [zero_lay]
  refine Calls.mono (H.out _) ?_
  rintro e w2 ⟨rfl, b2⟩
  go_wp2
  go_ret2
  exact ⟨rfl, HB0.out.trans (b2.mono HB0.out.size)⟩

set_option maxRecDepth 100000 in
set_option maxHeartbeats 400000 in
theorem refDo_remu (b c : Nat) (w : World) (hb : b < 4294967296) (hc : c < 4294967296) (h0 : c ≠ 0) :
    Calls Tryd.prog 34 #[.int .i64 12, .int .u32 (b : Int), .int .u32 (c : Int)] w fun e w' => e = .returned (.tuple #[.int .u32 (b % c : Nat), .int .i64 0]) ∧ Below w.heap.size w w' := by
  have HR := hide (fun w => row_any b w hb)
  have HI := hide (size62 b.testBit)
  have HA := hide (Tb_all b.testBit 32)
  have HS := hide (Tb_size b.testBit 32)
  have en : ((c : Int)).tmod 32 = ((c % 32 : Nat) : Int) := by rw [Int.tmod_eq_emod_of_nonneg (by omega)]; omega
  have en2 : (c : Int) % 32 = ((c % 32 : Nat) : Int) := by omega
  have H := hide (fun w => divide_12 b c w hb hc h0)
  generalize b % c = r at *
  obtain ⟨n, hn⟩ : ∃ n, c % 32 = n := ⟨_, rfl⟩
  have hn32 : n < 32 := by omega
  rw [hn] at en en2 
  clear hn
  have HEn := hide en2
  clear en en2
  go_enter Tryd.func34, Tryd.ntmps34
  go_wp2_with fail
  rw [HEn.out]
  refine Calls.mono (HR.out _) ?_
  rintro e w1 ⟨rfl, b1⟩
  have B1 := hide b1
  have HR0 := hide (Rw.new w1 b.testBit)
  have HB0 : Hid (Below w.heap.size w (w1.alloc (.cells (Tb b.testBit 32) 102))) := b1.alloc b1.size _
  have HG := hide (heap_alloc_new w1 (.cells (Tb b.testBit 32) 102))
  clear b1 HR
  generalize hTg : Tb b.testBit 32 = T at *
  clear hTg
  go_wp2_with (refine wpList_store_row rfl 102 _ _ rfl w1.heap.size T rfl rfl 102 _ (zero_heap w1) HI.out (zero_size HS.out) HA.out ?_)
  rw [zero_lay]
  refine Calls.mono (H.out _) ?_
  rintro e w2 ⟨rfl, b2⟩
  go_wp2
  go_ret2
  exact ⟨rfl, HB0.out.trans (b2.mono HB0.out.size)⟩

set_option maxRecDepth 100000 in
set_option maxHeartbeats 400000 in
theorem refDo_rems (b c : Nat) (w : World) (hb : b < 4294967296) (hc : c < 4294967296) (h0 : c ≠ 0) :
    Calls Tryd.prog 34 #[.int .i64 13, .int .u32 (b : Int), .int .u32 (c : Int)] w fun e w' => e = .returned (.tuple #[.int .u32 (un ((sg b).tmod (sg c)) : Nat), .int .i64 0]) ∧ Below w.heap.size w w' := by
  have HR := hide (fun w => row_any b w hb)
  have HI := hide (size62 b.testBit)
  have HA := hide (Tb_all b.testBit 32)
  have HS := hide (Tb_size b.testBit 32)
  have en : ((c : Int)).tmod 32 = ((c % 32 : Nat) : Int) := by rw [Int.tmod_eq_emod_of_nonneg (by omega)]; omega
  have en2 : (c : Int) % 32 = ((c % 32 : Nat) : Int) := by omega
  have H := hide (fun w => divide_13 b c w hb hc h0)
  generalize un ((sg b).tmod (sg c)) = r at *
  obtain ⟨n, hn⟩ : ∃ n, c % 32 = n := ⟨_, rfl⟩
  have hn32 : n < 32 := by omega
  rw [hn] at en en2 
  clear hn
  have HEn := hide en2
  clear en en2
  go_enter Tryd.func34, Tryd.ntmps34
  go_wp2_with fail
  rw [HEn.out]
  refine Calls.mono (HR.out _) ?_
  rintro e w1 ⟨rfl, b1⟩
  have B1 := hide b1
  have HR0 := hide (Rw.new w1 b.testBit)
  have HB0 : Hid (Below w.heap.size w (w1.alloc (.cells (Tb b.testBit 32) 102))) := b1.alloc b1.size _
  have HG := hide (heap_alloc_new w1 (.cells (Tb b.testBit 32) 102))
  clear b1 HR
  generalize hTg : Tb b.testBit 32 = T at *
  clear hTg
  go_wp2_with (refine wpList_store_row rfl 102 _ _ rfl w1.heap.size T rfl rfl 102 _ (zero_heap w1) HI.out (zero_size HS.out) HA.out ?_)
  rw [zero_lay]
  refine Calls.mono (H.out _) ?_
  rintro e w2 ⟨rfl, b2⟩
  go_wp2
  go_ret2
  exact ⟨rfl, HB0.out.trans (b2.mono HB0.out.size)⟩
end Go.Proofs.YtegkodgondlcmaaDoor
