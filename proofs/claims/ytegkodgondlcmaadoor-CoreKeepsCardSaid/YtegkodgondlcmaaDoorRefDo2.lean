/-
  Contracts of the document's Do: shifts, comparisons, refusals; and of its Test.
-/
import Derived.Test.YtegkodgondlcmaaDoorRefDo
namespace FerryAlu
set_option linter.unusedVariables false
theorem shl_num {b n : Nat} (shf : Nat → Bool) (hn : n < 32) (h : ∀ i, i < 32 → shf i = if n ≤ i then b.testBit (i - n) else false) : nm shf 32 = b * 2 ^ n % 4294967296 := by
  refine nm_eq (Nat.mod_lt _ (by decide)) (fun i hi => ?_)
  rw [h i hi, show (4294967296 : Nat) = 2 ^ 32 by decide, Nat.testBit_mod_two_pow, Nat.mul_comm, Nat.testBit_two_pow_mul]
  by_cases h3 : n ≤ i <;> simp [hi, h3]
theorem shr_num {b n : Nat} (shf : Nat → Bool) (hb : b < 4294967296) (h : ∀ i, i < 32 → shf i = if i + n < 32 then b.testBit (i + n) else false) : nm shf 32 = b / 2 ^ n := by
  refine nm_eq (Nat.lt_of_le_of_lt (Nat.div_le_self _ _) hb) (fun i hi => ?_)
  rw [h i hi, Nat.testBit_div_two_pow]
  by_cases h3 : i + n < 32
  · rw [if_pos h3]
  · rw [if_neg h3, Nat.testBit_lt_two_pow (Nat.lt_of_lt_of_le hb (Nat.pow_le_pow_right (n := 2) (i := 32) (by decide) (by omega)))]
theorem sar_num {b n : Nat} (shf : Nat → Bool) (hb : b < 4294967296) (hn : n < 32) (h : ∀ i, i < 32 → shf i = if i + n < 32 then b.testBit (i + n) else b.testBit 31) : nm shf 32 = un (sg b / ((2 ^ n : Nat) : Int)) := by
  have htop : b.testBit 31 = decide (2147483648 ≤ b) := by
    rw [Nat.testBit_eq_decide_div_mod_eq, show (2 ^ 31 : Nat) = 2147483648 by decide]
    congr 1
    apply propext
    omega
  refine nm_eq (un_lt _) (fun i hi => ?_)
  rw [h i hi, htop]
  unfold sg
  have hp : 0 < 2 ^ n := Nat.two_pow_pos n
  have hsp : 2 ^ (32 - n) * 2 ^ n = 4294967296 := by rw [← Nat.pow_add, show 32 - n + n = 32 by omega]
  by_cases hs : b < 2147483648
  · rw [if_pos hs, ← Int.natCast_ediv, un_nat (Nat.lt_of_le_of_lt (Nat.div_le_self _ _) hb), Nat.testBit_div_two_pow]
    by_cases h3 : i + n < 32
    · rw [if_pos h3]
    · rw [if_neg h3, Nat.testBit_lt_two_pow (Nat.lt_of_lt_of_le hb (Nat.pow_le_pow_right (n := 2) (i := 32) (by decide) (by omega)))]
      simp; omega
  · rw [if_neg hs]
    have hlt : b / 2 ^ n < 2 ^ (32 - n) := div_lt_of (by rw [Nat.mul_comm, hsp]; exact hb)
    have e : ((b : Int) - 4294967296) / ((2 ^ n : Nat) : Int) = ((b / 2 ^ n : Nat) : Int) - ((2 ^ (32 - n) : Nat) : Int) := by
      rw [show (4294967296 : Int) = ((2 ^ (32 - n) * 2 ^ n : Nat) : Int) by rw [hsp]; rfl, Int.natCast_mul, Int.sub_mul_ediv_right _ _ (by omega), Int.natCast_ediv]
    rw [e]
    have hle : 2 ^ (32 - n) ≤ 4294967296 := two_pow_le (by omega)
    have e2 : un (((b / 2 ^ n : Nat) : Int) - ((2 ^ (32 - n) : Nat) : Int)) = 2 ^ (32 - n) * (2 ^ n - 1) + b / 2 ^ n := by
      rw [Nat.mul_sub, hsp, Nat.mul_one]
      generalize b / 2 ^ n = Y at *
      generalize 2 ^ (32 - n) = M at *
      unfold un
      omega
    rw [e2, Nat.testBit_two_pow_mul_add _ hlt, Nat.testBit_two_pow_sub_one, Nat.testBit_div_two_pow]
    by_cases h3 : i + n < 32
    · rw [if_pos h3, if_pos (by omega)]
    · rw [if_neg h3, if_neg (by omega)]
      simp
      omega
end FerryAlu
namespace Go.Proofs.YtegkodgondlcmaaDoor
open Go.RowKit FerryAlu
set_option linter.unusedVariables false

set_option maxRecDepth 100000 in
set_option maxHeartbeats 400000 in
theorem refDo_shl (b c : Nat) (w : World) (hb : b < 4294967296) (hc : c < 4294967296) :
    Calls Tryd.prog 34 #[.int .i64 6, .int .u32 (b : Int), .int .u32 (c : Int)] w fun e w' => e = .returned (.tuple #[.int .u32 (b * 2 ^ (c % 32) % 4294967296 : Nat), .int .i64 0]) ∧ Below w.heap.size w w' := by
  have HR := hide (fun w => row_any b w hb)
  have HI := hide (size62 b.testBit)
  have HA := hide (Tb_all b.testBit 32)
  have HS := hide (Tb_size b.testBit 32)
  have en2 : (c : Int) % 32 = ((c % 32 : Nat) : Int) := by omega
  obtain ⟨n, hn⟩ : ∃ n, c % 32 = n := ⟨_, rfl⟩
  have hn32 : n < 32 := by omega
  rw [hn] at en2 ⊢
  have H1 := hide (fun w => shift_row b.testBit (n : Int) false w (by omega) (by omega))
  have H2 := hide (fun w => rnumber_any (shf b.testBit (n : Int) false) w)
  rw [shl_num (b := b) (n := n) _ hn32 (fun i hi => by
    unfold shf
    by_cases h : n ≤ i
    · rw [if_pos (by omega), if_pos h, show ((i : Int) - (n : Int)).toNat = i - n by omega]
    · rw [if_neg (by omega), if_neg h])] at H2
  generalize Tb (shf b.testBit (n : Int) false) 32 = T4 at *
  generalize b * 2 ^ n % 4294967296 = r at *
  clear hn
  have HEn := hide en2
  clear en2
  go_enter Tryd.func34, Tryd.ntmps34
  go_wp2_with fail
  rw [HEn.out]
  refine Calls.mono (HR.out _) ?_
  rintro e w1 ⟨rfl, b1⟩
  have B1 := hide b1
  have HR0 := hide (Rw.new w1 b.testBit)
  have HB0 : Hid (Below w.heap.size w (w1.alloc (.cells (Tb b.testBit 32) 102))) := b1.alloc b1.size _
  have HG : Hid ((w1.alloc (.cells (Tb b.testBit 32) 102)).heap[w1.heap.size]? = some (.cells (Tb b.testBit 32) 102 (0, 0))) := heap_alloc_new w1 _
  clear b1 HR
  generalize hTg : Tb b.testBit 32 = T at *
  clear hTg
  go_wp2_with (first | refine wpList_store_row rfl 102 _ _ rfl w1.heap.size T rfl rfl 102 _ (zero_heap w1) HI.out (zero_size HS.out) HA.out ?_ | refine wpList_load_row rfl 102 _ rfl w1.heap.size rfl 102 T (0, 0) _ (setRow_heap _ _ _ _ _ _ (zero_heap w1)) Tryd.underlying102 rfl HI.out ?_)
  rw [zero_lay]
  refine Calls.mono (H1.out _) ?_
  rintro e w2 ⟨rfl, b2⟩
  have B2 := hide (HB0.out.trans (b2.mono HB0.out.size))
  clear b2
  go_wp2_with fail
  refine Calls.mono (H2.out _) ?_
  rintro e w3 ⟨rfl, b3⟩
  go_wp2
  go_ret2
  exact ⟨rfl, chain B2.out b3⟩

set_option maxRecDepth 100000 in
set_option maxHeartbeats 400000 in
theorem refDo_shr (b c : Nat) (w : World) (hb : b < 4294967296) (hc : c < 4294967296) :
    Calls Tryd.prog 34 #[.int .i64 7, .int .u32 (b : Int), .int .u32 (c : Int)] w fun e w' => e = .returned (.tuple #[.int .u32 (b / 2 ^ (c % 32) : Nat), .int .i64 0]) ∧ Below w.heap.size w w' := by
  have HR := hide (fun w => row_any b w hb)
  have HI := hide (size62 b.testBit)
  have HA := hide (Tb_all b.testBit 32)
  have HS := hide (Tb_size b.testBit 32)
  have en2 : (c : Int) % 32 = ((c % 32 : Nat) : Int) := by omega
  obtain ⟨n, hn⟩ : ∃ n, c % 32 = n := ⟨_, rfl⟩
  have hn32 : n < 32 := by omega
  rw [hn] at en2 ⊢
  have H1 := hide (fun w => shift_row b.testBit (-(n : Int)) false w (by omega) (by omega))
  have H2 := hide (fun w => rnumber_any (shf b.testBit (-(n : Int)) false) w)
  rw [shr_num (b := b) (n := n) _ hb (fun i hi => by
    unfold shf
    by_cases h : i + n < 32
    · rw [if_pos (by omega), if_pos h, show ((i : Int) - -(n : Int)).toNat = i + n by omega]
    · rw [if_neg (by omega), if_neg h])] at H2
  generalize Tb (shf b.testBit (-(n : Int)) false) 32 = T4 at *
  generalize b / 2 ^ n = r at *
  clear hn
  have HEn := hide en2
  clear en2
  go_enter Tryd.func34, Tryd.ntmps34
  go_wp2_with fail
  rw [HEn.out]
  refine Calls.mono (HR.out _) ?_
  rintro e w1 ⟨rfl, b1⟩
  have B1 := hide b1
  have HR0 := hide (Rw.new w1 b.testBit)
  have HB0 : Hid (Below w.heap.size w (w1.alloc (.cells (Tb b.testBit 32) 102))) := b1.alloc b1.size _
  have HG : Hid ((w1.alloc (.cells (Tb b.testBit 32) 102)).heap[w1.heap.size]? = some (.cells (Tb b.testBit 32) 102 (0, 0))) := heap_alloc_new w1 _
  clear b1 HR
  generalize hTg : Tb b.testBit 32 = T at *
  clear hTg
  go_wp2_with (first | refine wpList_store_row rfl 102 _ _ rfl w1.heap.size T rfl rfl 102 _ (zero_heap w1) HI.out (zero_size HS.out) HA.out ?_ | refine wpList_load_row rfl 102 _ rfl w1.heap.size rfl 102 T (0, 0) _ (setRow_heap _ _ _ _ _ _ (zero_heap w1)) Tryd.underlying102 rfl HI.out ?_)
  rw [zero_lay]
  refine Calls.mono (H1.out _) ?_
  rintro e w2 ⟨rfl, b2⟩
  have B2 := hide (HB0.out.trans (b2.mono HB0.out.size))
  clear b2
  go_wp2_with fail
  refine Calls.mono (H2.out _) ?_
  rintro e w3 ⟨rfl, b3⟩
  go_wp2
  go_ret2
  exact ⟨rfl, chain B2.out b3⟩

set_option maxRecDepth 100000 in
set_option maxHeartbeats 400000 in
theorem refDo_sar (b c : Nat) (w : World) (hb : b < 4294967296) (hc : c < 4294967296) :
    Calls Tryd.prog 34 #[.int .i64 8, .int .u32 (b : Int), .int .u32 (c : Int)] w fun e w' => e = .returned (.tuple #[.int .u32 (un (sg b / ((2 ^ (c % 32) : Nat) : Int)) : Nat), .int .i64 0]) ∧ Below w.heap.size w w' := by
  have HR := hide (fun w => row_any b w hb)
  have HI := hide (size62 b.testBit)
  have HA := hide (Tb_all b.testBit 32)
  have HS := hide (Tb_size b.testBit 32)
  have en2 : (c : Int) % 32 = ((c % 32 : Nat) : Int) := by omega
  obtain ⟨n, hn⟩ : ∃ n, c % 32 = n := ⟨_, rfl⟩
  have hn32 : n < 32 := by omega
  rw [hn] at en2 ⊢
  have H1 := hide (fun w => shift_row b.testBit (-(n : Int)) (b.testBit 31) w (by omega) (by omega))
  have H2 := hide (fun w => rnumber_any (shf b.testBit (-(n : Int)) (b.testBit 31)) w)
  rw [sar_num (b := b) (n := n) _ hb hn32 (fun i hi => by
    unfold shf
    by_cases h : i + n < 32
    · rw [if_pos (by omega), if_pos h, show ((i : Int) - -(n : Int)).toNat = i + n by omega]
    · rw [if_neg (by omega), if_neg h])] at H2
  generalize Tb (shf b.testBit (-(n : Int)) (b.testBit 31)) 32 = T4 at *
  generalize un (sg b / ((2 ^ n : Nat) : Int)) = r at *
  clear hn
  have HEn := hide en2
  clear en2
  go_enter Tryd.func34, Tryd.ntmps34
  go_wp2_with fail
  rw [HEn.out]
  refine Calls.mono (HR.out _) ?_
  rintro e w1 ⟨rfl, b1⟩
  have B1 := hide b1
  have HR0 := hide (Rw.new w1 b.testBit)
  have HB0 : Hid (Below w.heap.size w (w1.alloc (.cells (Tb b.testBit 32) 102))) := b1.alloc b1.size _
  have HG : Hid ((w1.alloc (.cells (Tb b.testBit 32) 102)).heap[w1.heap.size]? = some (.cells (Tb b.testBit 32) 102 (0, 0))) := heap_alloc_new w1 _
  clear b1 HR
  generalize hTg : Tb b.testBit 32 = T at *
  clear hTg
  have c31 : ((w1.alloc (.cells #[.bool false, .bool false, .bool false, .bool false, .bool false, .bool false, .bool false, .bool false, .bool false, .bool false, .bool false, .bool false, .bool false, .bool false, .bool false, .bool false, .bool false, .bool false, .bool false, .bool false, .bool false, .bool false, .bool false, .bool false, .bool false, .bool false, .bool false, .bool false, .bool false, .bool false, .bool false, .bool false] 102)).setRow w1.heap.size T).cell? ⟨w1.heap.size, 31, none⟩ = some (.bool (b.testBit 31)) := by rw [zero_lay]; exact HR0.out.cell 31 (by decide)
  go_wp2_with (first | refine wpList_store_row rfl 102 _ _ rfl w1.heap.size T rfl rfl 102 _ (zero_heap w1) HI.out (zero_size HS.out) HA.out ?_ | refine wpList_load_row rfl 102 _ rfl w1.heap.size rfl 102 T (0, 0) _ (setRow_heap _ _ _ _ _ _ (zero_heap w1)) Tryd.underlying102 rfl HI.out ?_)
  clear c31
  rw [zero_lay]
  refine Calls.mono (H1.out _) ?_
  rintro e w2 ⟨rfl, b2⟩
  have B2 := hide (HB0.out.trans (b2.mono HB0.out.size))
  clear b2
  go_wp2_with fail
  refine Calls.mono (H2.out _) ?_
  rintro e w3 ⟨rfl, b3⟩
  go_wp2
  go_ret2
  exact ⟨rfl, chain B2.out b3⟩

theorem truth_any (p : Bool) (w : World) : Calls Tryd.prog 60 #[.bool p] w fun e w' => e = .returned (.int .u32 (p.toNat : Nat)) ∧ w = w' := by
  cases p
  · go_enter Tryd.func60, Tryd.ntmps60
    go_wp2
    go_ret
    exact ⟨rfl, rfl⟩
  · go_enter Tryd.func60, Tryd.ntmps60
    go_wp2
    go_ret
    exact ⟨rfl, rfl⟩

set_option maxRecDepth 100000 in
set_option maxHeartbeats 400000 in
theorem refDo_sltu (b c : Nat) (w : World) (hb : b < 4294967296) (hc : c < 4294967296) :
    Calls Tryd.prog 34 #[.int .i64 14, .int .u32 (b : Int), .int .u32 (c : Int)] w fun e w' => e = .returned (.tuple #[.int .u32 ((decide (b < c)).toNat : Nat), .int .i64 0]) ∧ Below w.heap.size w w' := by
  have HR := hide (fun w => row_any b w hb)
  have HI := hide (size62 b.testBit)
  have HA := hide (Tb_all b.testBit 32)
  have HS := hide (Tb_size b.testBit 32)
  have HT := hide (fun w => truth_any (decide (b < c)) w)
  obtain ⟨p, hp⟩ : ∃ p, (decide (b < c)).toNat = p := ⟨_, rfl⟩
  rw [hp] at HT ⊢
  go_enter Tryd.func34, Tryd.ntmps34
  go_wp2_with fail
  refine Calls.mono (HR.out _) ?_
  rintro e w1 ⟨rfl, b1⟩
  have HB0 : Hid (Below w.heap.size w (w1.alloc (.cells (Tb b.testBit 32) 102))) := b1.alloc b1.size _
  clear b1 HR
  generalize hTg : Tb b.testBit 32 = T at *
  clear hTg
  go_wp2_with (refine wpList_store_row rfl 102 _ _ rfl w1.heap.size T rfl rfl 102 _ (zero_heap w1) HI.out (zero_size HS.out) HA.out ?_)
  refine Calls.mono (HT.out _) ?_
  rintro e w2 ⟨rfl, rfl⟩
  go_wp2
  go_ret2
  exact ⟨rfl, by rw [zero_lay]; exact HB0.out⟩

set_option maxRecDepth 100000 in
set_option maxHeartbeats 400000 in
theorem refDo_slts (b c : Nat) (w : World) (hb : b < 4294967296) (hc : c < 4294967296) :
    Calls Tryd.prog 34 #[.int .i64 15, .int .u32 (b : Int), .int .u32 (c : Int)] w fun e w' => e = .returned (.tuple #[.int .u32 ((decide (sg b < sg c)).toNat : Nat), .int .i64 0]) ∧ Below w.heap.size w w' := by
  have HR := hide (fun w => row_any b w hb)
  have HI := hide (size62 b.testBit)
  have HA := hide (Tb_all b.testBit 32)
  have HS := hide (Tb_size b.testBit 32)
  have HT := hide (fun w => truth_any (decide (sg b < sg c)) w)
  have S1 := hide (fun w => refSigned_any b w hb)
  have S2 := hide (fun w => refSigned_any c w hc)
  obtain ⟨p, hp⟩ : ∃ p, (decide (sg b < sg c)).toNat = p := ⟨_, rfl⟩
  rw [hp] at HT ⊢
  clear hp
  generalize sg b = sb at *
  generalize sg c = sc at *
  go_enter Tryd.func34, Tryd.ntmps34
  go_wp2_with fail
  refine Calls.mono (HR.out _) ?_
  rintro e w1 ⟨rfl, b1⟩
  have HB0 : Hid (Below w.heap.size w (w1.alloc (.cells (Tb b.testBit 32) 102))) := b1.alloc b1.size _
  clear b1 HR
  generalize hTg : Tb b.testBit 32 = T at *
  clear hTg
  go_wp2_with (refine wpList_store_row rfl 102 _ _ rfl w1.heap.size T rfl rfl 102 _ (zero_heap w1) HI.out (zero_size HS.out) HA.out ?_)
  refine Calls.mono (S1.out _) ?_
  rintro e w2 ⟨rfl, rfl⟩
  go_wp2_with fail
  refine Calls.mono (S2.out _) ?_
  rintro e w2 ⟨rfl, rfl⟩
  go_wp2_with fail
  refine Calls.mono (HT.out _) ?_
  rintro e w2 ⟨rfl, rfl⟩
  go_wp2
  go_ret2
  exact ⟨rfl, by rw [zero_lay]; exact HB0.out⟩

set_option maxRecDepth 100000 in
set_option maxHeartbeats 400000 in
theorem refDo_zero10 (b : Nat) (w : World) (hb : b < 4294967296) :
    Calls Tryd.prog 34 #[.int .i64 10, .int .u32 (b : Int), .int .u32 0] w fun e w' => e = .returned (.tuple #[.int .u32 0, .int .i64 20]) ∧ Below w.heap.size w w' := by
  have HR := hide (fun w => row_any b w hb)
  have HI := hide (size62 b.testBit)
  have HA := hide (Tb_all b.testBit 32)
  have HS := hide (Tb_size b.testBit 32)
  have HZ := hide (fun w => divide_zero 10 b w)
  go_enter Tryd.func34, Tryd.ntmps34
  go_wp2_with fail
  refine Calls.mono (HR.out _) ?_
  rintro e w1 ⟨rfl, b1⟩
  have HB0 : Hid (Below w.heap.size w (w1.alloc (.cells (Tb b.testBit 32) 102))) := b1.alloc b1.size _
  clear b1 HR
  generalize hTg : Tb b.testBit 32 = T at *
  clear hTg
  go_wp2_with (refine wpList_store_row rfl 102 _ _ rfl w1.heap.size T rfl rfl 102 _ (zero_heap w1) HI.out (zero_size HS.out) HA.out ?_)
  refine Calls.mono (HZ.out _) ?_
  rintro e w2 ⟨rfl, rfl⟩
  go_wp2
  go_ret2
  exact ⟨rfl, by rw [zero_lay]; exact HB0.out⟩

set_option maxRecDepth 100000 in
set_option maxHeartbeats 400000 in
theorem refDo_zero11 (b : Nat) (w : World) (hb : b < 4294967296) :
    Calls Tryd.prog 34 #[.int .i64 11, .int .u32 (b : Int), .int .u32 0] w fun e w' => e = .returned (.tuple #[.int .u32 0, .int .i64 20]) ∧ Below w.heap.size w w' := by
  have HR := hide (fun w => row_any b w hb)
  have HI := hide (size62 b.testBit)
  have HA := hide (Tb_all b.testBit 32)
  have HS := hide (Tb_size b.testBit 32)
  have HZ := hide (fun w => divide_zero 11 b w)
  go_enter Tryd.func34, Tryd.ntmps34
  go_wp2_with fail
  refine Calls.mono (HR.out _) ?_
  rintro e w1 ⟨rfl, b1⟩
  have HB0 : Hid (Below w.heap.size w (w1.alloc (.cells (Tb b.testBit 32) 102))) := b1.alloc b1.size _
  clear b1 HR
  generalize hTg : Tb b.testBit 32 = T at *
  clear hTg
  go_wp2_with (refine wpList_store_row rfl 102 _ _ rfl w1.heap.size T rfl rfl 102 _ (zero_heap w1) HI.out (zero_size HS.out) HA.out ?_)
  refine Calls.mono (HZ.out _) ?_
  rintro e w2 ⟨rfl, rfl⟩
  go_wp2
  go_ret2
  exact ⟨rfl, by rw [zero_lay]; exact HB0.out⟩

set_option maxRecDepth 100000 in
set_option maxHeartbeats 400000 in
theorem refDo_zero12 (b : Nat) (w : World) (hb : b < 4294967296) :
    Calls Tryd.prog 34 #[.int .i64 12, .int .u32 (b : Int), .int .u32 0] w fun e w' => e = .returned (.tuple #[.int .u32 0, .int .i64 20]) ∧ Below w.heap.size w w' := by
  have HR := hide (fun w => row_any b w hb)
  have HI := hide (size62 b.testBit)
  have HA := hide (Tb_all b.testBit 32)
  have HS := hide (Tb_size b.testBit 32)
  have HZ := hide (fun w => divide_zero 12 b w)
  go_enter Tryd.func34, Tryd.ntmps34
  go_wp2_with fail
  refine Calls.mono (HR.out _) ?_
  rintro e w1 ⟨rfl, b1⟩
  have HB0 : Hid (Below w.heap.size w (w1.alloc (.cells (Tb b.testBit 32) 102))) := b1.alloc b1.size _
  clear b1 HR
  generalize hTg : Tb b.testBit 32 = T at *
  clear hTg
  go_wp2_with (refine wpList_store_row rfl 102 _ _ rfl w1.heap.size T rfl rfl 102 _ (zero_heap w1) HI.out (zero_size HS.out) HA.out ?_)
  refine Calls.mono (HZ.out _) ?_
  rintro e w2 ⟨rfl, rfl⟩
  go_wp2
  go_ret2
  exact ⟨rfl, by rw [zero_lay]; exact HB0.out⟩

set_option maxRecDepth 100000 in
set_option maxHeartbeats 400000 in
theorem refDo_zero13 (b : Nat) (w : World) (hb : b < 4294967296) :
    Calls Tryd.prog 34 #[.int .i64 13, .int .u32 (b : Int), .int .u32 0] w fun e w' => e = .returned (.tuple #[.int .u32 0, .int .i64 20]) ∧ Below w.heap.size w w' := by
  have HR := hide (fun w => row_any b w hb)
  have HI := hide (size62 b.testBit)
  have HA := hide (Tb_all b.testBit 32)
  have HS := hide (Tb_size b.testBit 32)
  have HZ := hide (fun w => divide_zero 13 b w)
  go_enter Tryd.func34, Tryd.ntmps34
  go_wp2_with fail
  refine Calls.mono (HR.out _) ?_
  rintro e w1 ⟨rfl, b1⟩
  have HB0 : Hid (Below w.heap.size w (w1.alloc (.cells (Tb b.testBit 32) 102))) := b1.alloc b1.size _
  clear b1 HR
  generalize hTg : Tb b.testBit 32 = T at *
  clear hTg
  go_wp2_with (refine wpList_store_row rfl 102 _ _ rfl w1.heap.size T rfl rfl 102 _ (zero_heap w1) HI.out (zero_size HS.out) HA.out ?_)
  refine Calls.mono (HZ.out _) ?_
  rintro e w2 ⟨rfl, rfl⟩
  go_wp2
  go_ret2
  exact ⟨rfl, by rw [zero_lay]; exact HB0.out⟩

set_option maxRecDepth 100000 in
set_option maxHeartbeats 800000 in
theorem refDo_kind (op : Int) (b c : Nat) (w : World) (hb : b < 4294967296) (h : op < 1 ∨ 15 < op) :
    Calls Tryd.prog 34 #[.int .i64 op, .int .u32 (b : Int), .int .u32 (c : Int)] w fun e w' => e = .returned (.tuple #[.int .u32 0, .int .i64 7]) ∧ Below w.heap.size w w' := by
  have HR := hide (fun w => row_any b w hb)
  have HI := hide (size62 b.testBit)
  have HA := hide (Tb_all b.testBit 32)
  have HS := hide (Tb_size b.testBit 32)
  have e1 : (op == 1) = false := by simp; omega
  have e2 : (op == 2) = false := by simp; omega
  have e3 : (op == 3) = false := by simp; omega
  have e4 : (op == 4) = false := by simp; omega
  have e5 : (op == 5) = false := by simp; omega
  have e6 : (op == 6) = false := by simp; omega
  have e7 : (op == 7) = false := by simp; omega
  have e8 : (op == 8) = false := by simp; omega
  have e9 : (op == 9) = false := by simp; omega
  have e10 : (op == 10) = false := by simp; omega
  have e11 : (op == 11) = false := by simp; omega
  have e12 : (op == 12) = false := by simp; omega
  have e13 : (op == 13) = false := by simp; omega
  have e14 : (op == 14) = false := by simp; omega
  have e15 : (op == 15) = false := by simp; omega
  clear h
  go_enter Tryd.func34, Tryd.ntmps34
  go_wp2_with fail
  refine Calls.mono (HR.out _) ?_
  rintro e w1 ⟨rfl, b1⟩
  have HB0 : Hid (Below w.heap.size w (w1.alloc (.cells (Tb b.testBit 32) 102))) := b1.alloc b1.size _
  clear b1 HR
  generalize hTg : Tb b.testBit 32 = T at *
  clear hTg
  go_wp2_with (refine wpList_store_row rfl 102 _ _ rfl w1.heap.size T rfl rfl 102 _ (zero_heap w1) HI.out (zero_size HS.out) HA.out ?_)
  go_ret2
  exact ⟨rfl, by rw [zero_lay]; exact HB0.out⟩

theorem refTest_eq (b c : Nat) (w : World) (hb : b < 4294967296) (hc : c < 4294967296) :
    Calls Tryd.prog 39 #[.int .i64 48, .int .u32 (b : Int), .int .u32 (c : Int)] w fun e w' => e = .returned (.tuple #[.bool ((b : Int) == (c : Int)), .int .i64 0]) ∧ w = w' := by
  have S1 := hide (fun w => refSigned_any b w hb)
  have S2 := hide (fun w => refSigned_any c w hc)
  go_enter Tryd.func39, Tryd.ntmps39
  go_wp2
  go_ret2
  exact ⟨rfl, rfl⟩

theorem refTest_ne (b c : Nat) (w : World) (hb : b < 4294967296) (hc : c < 4294967296) :
    Calls Tryd.prog 39 #[.int .i64 49, .int .u32 (b : Int), .int .u32 (c : Int)] w fun e w' => e = .returned (.tuple #[.bool ((b : Int) != (c : Int)), .int .i64 0]) ∧ w = w' := by
  have S1 := hide (fun w => refSigned_any b w hb)
  have S2 := hide (fun w => refSigned_any c w hc)
  go_enter Tryd.func39, Tryd.ntmps39
  go_wp2
  go_ret2
  exact ⟨rfl, rfl⟩

theorem refTest_ltu (b c : Nat) (w : World) (hb : b < 4294967296) (hc : c < 4294967296) :
    Calls Tryd.prog 39 #[.int .i64 50, .int .u32 (b : Int), .int .u32 (c : Int)] w fun e w' => e = .returned (.tuple #[.bool (decide (b < c)), .int .i64 0]) ∧ w = w' := by
  have S1 := hide (fun w => refSigned_any b w hb)
  have S2 := hide (fun w => refSigned_any c w hc)
  go_enter Tryd.func39, Tryd.ntmps39
  go_wp2
  go_ret2
  exact ⟨rfl, rfl⟩

theorem refTest_lts (b c : Nat) (w : World) (hb : b < 4294967296) (hc : c < 4294967296) :
    Calls Tryd.prog 39 #[.int .i64 51, .int .u32 (b : Int), .int .u32 (c : Int)] w fun e w' => e = .returned (.tuple #[.bool (decide (sg b < sg c)), .int .i64 0]) ∧ w = w' := by
  have S1 := hide (fun w => refSigned_any b w hb)
  have S2 := hide (fun w => refSigned_any c w hc)
  go_enter Tryd.func39, Tryd.ntmps39
  go_wp2_with fail
  refine Calls.mono (S1.out _) ?_
  rintro e w2 ⟨rfl, rfl⟩
  go_wp2_with fail
  refine Calls.mono (S2.out _) ?_
  rintro e w2 ⟨rfl, rfl⟩
  go_wp2
  go_ret2
  exact ⟨rfl, rfl⟩

theorem refTest_geu (b c : Nat) (w : World) (hb : b < 4294967296) (hc : c < 4294967296) :
    Calls Tryd.prog 39 #[.int .i64 52, .int .u32 (b : Int), .int .u32 (c : Int)] w fun e w' => e = .returned (.tuple #[.bool (decide (c ≤ b)), .int .i64 0]) ∧ w = w' := by
  have S1 := hide (fun w => refSigned_any b w hb)
  have S2 := hide (fun w => refSigned_any c w hc)
  go_enter Tryd.func39, Tryd.ntmps39
  go_wp2
  go_ret2
  exact ⟨rfl, rfl⟩

theorem refTest_ges (b c : Nat) (w : World) (hb : b < 4294967296) (hc : c < 4294967296) :
    Calls Tryd.prog 39 #[.int .i64 53, .int .u32 (b : Int), .int .u32 (c : Int)] w fun e w' => e = .returned (.tuple #[.bool (decide (sg c ≤ sg b)), .int .i64 0]) ∧ w = w' := by
  have S1 := hide (fun w => refSigned_any b w hb)
  have S2 := hide (fun w => refSigned_any c w hc)
  go_enter Tryd.func39, Tryd.ntmps39
  go_wp2_with fail
  refine Calls.mono (S1.out _) ?_
  rintro e w2 ⟨rfl, rfl⟩
  go_wp2_with fail
  refine Calls.mono (S2.out _) ?_
  rintro e w2 ⟨rfl, rfl⟩
  go_wp2
  go_ret2
  exact ⟨rfl, rfl⟩

theorem refTest_kind (op : Int) (b c : Nat) (w : World) (h : op < 48 ∨ 53 < op) :
    Calls Tryd.prog 39 #[.int .i64 op, .int .u32 (b : Int), .int .u32 (c : Int)] w fun e w' => e = .returned (.tuple #[.bool false, .int .i64 7]) ∧ w = w' := by
  have e48 : (op == 48) = false := by simp; omega
  have e49 : (op == 49) = false := by simp; omega
  have e50 : (op == 50) = false := by simp; omega
  have e51 : (op == 51) = false := by simp; omega
  have e52 : (op == 52) = false := by simp; omega
  have e53 : (op == 53) = false := by simp; omega
  clear h
  go_enter Tryd.func39, Tryd.ntmps39
  go_wp2
  go_ret2
  exact ⟨rfl, rfl⟩
end Go.Proofs.YtegkodgondlcmaaDoor
