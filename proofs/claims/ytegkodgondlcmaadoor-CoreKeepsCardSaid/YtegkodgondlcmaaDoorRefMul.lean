/-
  Contracts of the document's MulWide and DivWide.
-/
import Derived.Test.YtegkodgondlcmaaDoorRefAdd
namespace Go.Proofs.YtegkodgondlcmaaDoor
open Go.RowKit FerryAlu
set_option linter.unusedVariables false

set_option maxRecDepth 100000 in
set_option maxHeartbeats 400000 in
theorem refMul_any (b c : Nat) (w : World) (hb : b < 4294967296) (hc : c < 4294967296) :
    Calls Tryd.prog 58 #[.int .u32 (b : Int), .int .u32 (c : Int)] w fun e w' => e = .returned (.tuple #[.int .u32 (b * c / 4294967296 : Nat), .int .u32 (b * c % 4294967296 : Nat)]) ∧ Below w.heap.size w w' := by
  have HR := hide (row_any b w hb)
  have HI := hide (size62 b.testBit)
  have HA := hide (Tb_all b.testBit 32)
  have HS := hide (Tb_size b.testBit 32)
  go_enter Tryd.func58, Tryd.ntmps58
  go_wp2_with fail
  refine Calls.mono HR.out ?_
  rintro e w1 ⟨rfl, b1⟩
  have B1 := hide b1
  have HR0 := hide (Rw.new w1 b.testBit)
  have HB0 : Hid (Below w.heap.size w (w1.alloc (.cells (Tb b.testBit 32) 102))) := b1.alloc b1.size _
  clear b1 HR
  generalize Tb b.testBit 32 = T at *
  go_wp2_with (refine wpList_store_row rfl 102 _ _ rfl w1.heap.size T rfl rfl 102 _ (zero_heap w1) HI.out (zero_size HS.out) HA.out ?_)
  rw [zero_lay]
  generalize w1.alloc (.cells T 102) = W at *
  have hwB : w.heap.size ≤ w1.heap.size := B1.out.size
  generalize w1.heap.size = B at *
  go_loopw [7, 8, 9] (fun h l i wr => ∃ t : Nat, t ≤ 32 ∧ h = .int .u32 ((b / 2 ^ t * c / 4294967296 : Nat) : Int) ∧ l = .int .u32 ((b / 2 ^ t * c % 4294967296 : Nat) : Int) ∧ i = .int .i64 ((t : Int) - 1) ∧ Rw wr B b.testBit ∧ Below w.heap.size w wr) (fun _ _ i _ => ((intOf i) + 1).toNat)
  case atStart =>
    have h0 : b / 2 ^ 32 = 0 := Nat.div_eq_of_lt hb
    exact ⟨32, by omega, by rw [h0, Nat.zero_mul]; rfl, by rw [h0, Nat.zero_mul]; rfl, rfl, HR0.out, HB0.out⟩
  case round =>
    obtain ⟨t, ht, rfl, rfl, rfl, hR, hW⟩ := hrel
    have HRw := hide hR
    have HW := hide hW
    clear hR hW
    cases t with
    | succ k =>
      rw [show ((k + 1 : Nat) : Int) - 1 = (k : Int) by omega]
      have hk : k < 32 := by omega
      have hbit : b / 2 ^ k = 2 * (b / 2 ^ (k + 1)) + (b.testBit k).toNat := by
        rw [Nat.testBit_eq_decide_div_mod_eq, Nat.pow_succ, ← Nat.div_div_eq_div_mul]
        generalize b / 2 ^ k = y
        rcases Nat.mod_two_eq_zero_or_one y with h | h <;> simp [h] <;> omega
      have hcell := HRw.out.cell k hk
      have hle : b / 2 ^ k ≤ 4294967295 := by have := Nat.div_le_self b (2 ^ k); omega
      have hP : b / 2 ^ k * c < 18446744073709551616 := Nat.lt_of_le_of_lt (Nat.mul_le_mul hle (show c ≤ 4294967295 by omega)) (by decide)
      have hPe : b / 2 ^ k * c = 2 * (b / 2 ^ (k + 1) * c) + (b.testBit k).toNat * c := by rw [hbit, Nat.add_mul, Nat.mul_assoc]
      generalize b / 2 ^ (k + 1) * c = P at *
      generalize hPk : b / 2 ^ k * c = Q at *
      have l1 : P / 4294967296 < 4294967296 := by omega
      have l2 : P % 4294967296 < 4294967296 := by omega
      obtain ⟨c1, hc1⟩ : ∃ c1, c1 = decide (4294967296 ≤ P % 4294967296 + P % 4294967296 + Bool.toNat false) := ⟨_, rfl⟩
      have A1 := hide (fun w => refAdd_any (P % 4294967296) (P % 4294967296) false w l2 l2)
      have A2 := hide (fun w => refAdd_any (P / 4294967296) (P / 4294967296) c1 w l1 l1)
      rw [← hc1] at A1
      have n1 : c1.toNat = 2 * (P % 4294967296) / 4294967296 := by
        rw [hc1]
        by_cases h : 4294967296 ≤ P % 4294967296 + P % 4294967296 + Bool.toNat false
        · rw [decide_eq_true h]; simp at h ⊢; omega
        · rw [decide_eq_false h]; simp at h ⊢; omega
      have q1 : (P % 4294967296 + P % 4294967296 + Bool.toNat false) % 4294967296 = 2 * P % 4294967296 := by simp; omega
      have q2 : (P / 4294967296 + P / 4294967296 + c1.toNat) % 4294967296 = 2 * P / 4294967296 := by rw [n1]; omega
      rw [q1] at A1
      rw [q2] at A2
      clear q1 q2 n1 hc1
      generalize decide (4294967296 ≤ P / 4294967296 + P / 4294967296 + c1.toNat) = c2 at *
      have l3 : 2 * P / 4294967296 < 4294967296 := by omega
      have l4 : 2 * P % 4294967296 < 4294967296 := by omega
      obtain ⟨c3, hc3⟩ : ∃ c3, c3 = decide (4294967296 ≤ 2 * P % 4294967296 + c + Bool.toNat false) := ⟨_, rfl⟩
      have A3 := hide (fun w => refAdd_any (2 * P % 4294967296) c false w l4 hc)
      have A4 := hide (fun w => refAdd_any (2 * P / 4294967296) 0 c3 w l3 (by decide))
      rw [← hc3] at A3
      have n3 : c3.toNat = (2 * P % 4294967296 + c) / 4294967296 := by
        rw [hc3]
        by_cases h : 4294967296 ≤ 2 * P % 4294967296 + c + Bool.toNat false
        · rw [decide_eq_true h]; simp at h ⊢; omega
        · rw [decide_eq_false h]; simp at h ⊢; omega
      have q3 : (2 * P % 4294967296 + c + Bool.toNat false) % 4294967296 = (2 * P + c) % 4294967296 := by simp
      have q4 : 2 * P + c < 18446744073709551616 → (2 * P / 4294967296 + 0 + c3.toNat) % 4294967296 = (2 * P + c) / 4294967296 := fun h => by rw [n3]; omega
      rw [q3] at A3
      clear q3 n3 hc3
      obtain ⟨bt, hbt⟩ : ∃ bt, b.testBit k = bt := ⟨_, rfl⟩
      rw [hbt] at hPe
      have HBt := hide hbt
      clear hbt hcell
      have HPk := hide hPk
      clear hPk hbit hle
      obtain ⟨h1, eh1⟩ : ∃ h1, 2 * P / 4294967296 = h1 := ⟨_, rfl⟩
      obtain ⟨l1', el1⟩ : ∃ l1', 2 * P % 4294967296 = l1' := ⟨_, rfl⟩
      rw [el1] at A1
      rw [eh1] at A2
      have R0 := HRw
      have D0 := HW
      cases bt
      · have HQ : Hid (Q = 2 * P) := by unfold Hid; simpa using hPe
        have EH := hide eh1
        have EL := hide el1
        clear hPe q4 A3 A4 hP l3 l4 eh1 el1
        generalize P / 4294967296 = ph at *
        generalize P % 4294967296 = pl at *
        go_wp2_with fail
        refine Calls.mono (A1.out _) ?_
        rintro e w2 ⟨rfl, b⟩
        have R1 := hide (R0.out.below b)
        have D1 := hide (chain D0.out b)
        clear b
        go_wp2_with fail
        refine Calls.mono (A2.out _) ?_
        rintro e w3 ⟨rfl, b⟩
        have R2 := hide (R1.out.below b)
        have D2 := hide (chain D1.out b)
        clear b
        have hcell2 := R2.out.cell k hk
        rw [HBt.out] at hcell2
        go_wp2_with fail
        go_roundw
        case rel => exact ⟨k, by omega, by rw [HPk.out, HQ.out, EH.out], by rw [HPk.out, HQ.out, EL.out], by go_num, R2.out, D2.out⟩
        case measure => simp [intOf]
      · have hQ : Q = 2 * P + c := by simpa using hPe
        have q5 := q4 (by omega)
        rw [q5] at A4
        have HQ := hide hQ
        rw [el1] at A3
        rw [eh1] at A4
        obtain ⟨h2, eh2⟩ : ∃ h2, (2 * P + c) / 4294967296 = h2 := ⟨_, rfl⟩
        obtain ⟨l2', el2⟩ : ∃ l2', (2 * P + c) % 4294967296 = l2' := ⟨_, rfl⟩
        rw [el2] at A3
        rw [eh2] at A4
        have EH := hide eh2
        have EL := hide el2
        generalize decide (4294967296 ≤ h1 + 0 + c3.toNat) = c4 at *
        clear hPe q4 q5 hP l3 l4 eh1 el1 eh2 el2 hQ
        generalize P / 4294967296 = ph at *
        generalize P % 4294967296 = pl at *
        go_wp2_with fail
        refine Calls.mono (A1.out _) ?_
        rintro e w2 ⟨rfl, b⟩
        have R1 := hide (R0.out.below b)
        have D1 := hide (chain D0.out b)
        clear b
        go_wp2_with fail
        refine Calls.mono (A2.out _) ?_
        rintro e w3 ⟨rfl, b⟩
        have R2 := hide (R1.out.below b)
        have D2 := hide (chain D1.out b)
        clear b
        have hcell2 := R2.out.cell k hk
        rw [HBt.out] at hcell2
        go_wp2_with fail
        refine Calls.mono (A3.out _) ?_
        rintro e w4 ⟨rfl, b⟩
        have R3 := hide (R2.out.below b)
        have D3 := hide (chain D2.out b)
        clear b
        go_wp2_with fail
        refine Calls.mono (A4.out _) ?_
        rintro e w5 ⟨rfl, b⟩
        have R4 := hide (R3.out.below b)
        have D4 := hide (chain D3.out b)
        clear b
        go_wp2_with fail
        go_roundw
        case rel => exact ⟨k, by omega, by rw [HPk.out, HQ.out, EH.out], by rw [HPk.out, HQ.out, EL.out], by go_num, R4.out, D4.out⟩
        case measure => simp [intOf]
    | zero =>
      rw [show b / 2 ^ 0 * c = b * c by simp]
      obtain ⟨h1, eh⟩ : ∃ h1, b * c / 4294967296 = h1 := ⟨_, rfl⟩
      obtain ⟨l1, el⟩ : ∃ l1, b * c % 4294967296 = l1 := ⟨_, rfl⟩
      rw [eh, el]
      have EH := hide eh
      have EL := hide el
      clear eh el
      go_wp2
      go_ret2
      exact ⟨by rw [EH.out, EL.out]; rfl, HW.out⟩
set_option maxRecDepth 100000 in
set_option maxHeartbeats 400000 in
theorem refDiv_any (hi lo c : Nat) (w : World) (hh : hi < c) (hl : lo < 4294967296) (hc : c < 4294967296) :
    Calls Tryd.prog 75 #[.int .u32 (hi : Int), .int .u32 (lo : Int), .int .u32 (c : Int)] w fun e w' => e = .returned (.tuple #[.int .u32 ((hi * 4294967296 + lo) / c : Nat), .int .u32 ((hi * 4294967296 + lo) % c : Nat), .int .i64 0]) ∧ Below w.heap.size w w' := by
  have HR := hide (fun w => row_any lo w hl)
  have HI := hide (size62 lo.testBit)
  have HA := hide (Tb_all lo.testBit 32)
  have HS := hide (Tb_size lo.testBit 32)
  have c0 : ¬ c = 0 := by omega
  have c1 : ((c : Int) == 0) = false := by simp; omega
  have c3 : decide (c ≤ hi) = false := by simp; omega
  go_enter Tryd.func75, Tryd.ntmps75
  go_wp2_with fail
  refine Calls.mono (HR.out _) ?_
  rintro e w1 ⟨rfl, b1⟩
  have B1 := hide b1
  have HR0 := hide (Rw.new w1 lo.testBit)
  have HB0 : Hid (Below w.heap.size w (w1.alloc (.cells (Tb lo.testBit 32) 102))) := b1.alloc b1.size _
  clear b1 HR
  generalize Tb lo.testBit 32 = T at *
  go_wp2_with (refine wpList_store_row rfl 102 _ _ rfl w1.heap.size T rfl rfl 102 _ (zero_heap w1) HI.out (zero_size HS.out) HA.out ?_)
  rw [zero_lay]
  generalize w1.alloc (.cells T 102) = W at *
  have hwB : w.heap.size ≤ w1.heap.size := B1.out.size
  generalize w1.heap.size = B at *
  go_loopw [9, 11, 12] (fun r q i wr => ∃ t : Nat, t ≤ 32 ∧ r = .int .i64 (((hi * 2 ^ (32 - t) + lo / 2 ^ t) % c : Nat) : Int) ∧ q = .int .i64 (((hi * 2 ^ (32 - t) + lo / 2 ^ t) / c : Nat) : Int) ∧ i = .int .i64 ((t : Int) - 1) ∧ Rw wr B lo.testBit ∧ Below w.heap.size w wr) (fun _ _ i _ => ((intOf i) + 1).toNat)
  case atStart =>
    have h0 : lo / 2 ^ 32 = 0 := Nat.div_eq_of_lt hl
    refine ⟨32, by omega, ?_, ?_, rfl, HR0.out, HB0.out⟩
    · rw [h0]; simp [Nat.mod_eq_of_lt hh]
    · rw [h0]; simp [Nat.div_eq_of_lt hh]
  case round =>
    obtain ⟨t, ht, rfl, rfl, rfl, hR, hW⟩ := hrel
    have HRw := hide hR
    have HW := hide hW
    clear hR hW
    cases t with
    | succ k =>
      rw [show ((k + 1 : Nat) : Int) - 1 = (k : Int) by omega]
      have hk : k < 32 := by omega
      have hbit : lo / 2 ^ k = 2 * (lo / 2 ^ (k + 1)) + (lo.testBit k).toNat := by
        rw [Nat.testBit_eq_decide_div_mod_eq, Nat.pow_succ, ← Nat.div_div_eq_div_mul]
        generalize lo / 2 ^ k = y
        rcases Nat.mod_two_eq_zero_or_one y with h | h <;> simp [h] <;> omega
      have hM : hi * 2 ^ (32 - k) + lo / 2 ^ k = 2 * (hi * 2 ^ (32 - (k + 1)) + lo / 2 ^ (k + 1)) + (lo.testBit k).toNat := by
        rw [hbit, show 32 - k = (32 - (k + 1)) + 1 by omega, Nat.pow_succ, ← Nat.mul_assoc]
        omega
      have hq : (hi * 2 ^ (32 - (k + 1)) + lo / 2 ^ (k + 1)) / c < 4294967296 := by
        have h1 : lo / 2 ^ (k + 1) < 2 ^ (32 - (k + 1)) := div_lt_of (by rw [← Nat.pow_add, show k + 1 + (32 - (k + 1)) = 32 by omega]; exact hl)
        have h2 : (hi + 1) * 2 ^ (32 - (k + 1)) ≤ c * 2 ^ (32 - (k + 1)) := Nat.mul_le_mul_right _ hh
        have h3 : c * 2 ^ (32 - (k + 1)) ≤ c * 4294967296 := Nat.mul_le_mul_left _ (two_pow_le (by omega))
        rw [Nat.div_lt_iff_lt_mul (by omega)]
        rw [Nat.add_mul] at h2
        omega
      have hr : (hi * 2 ^ (32 - (k + 1)) + lo / 2 ^ (k + 1)) % c < c := Nat.mod_lt _ (by omega)
      have hdm := Nat.div_add_mod (hi * 2 ^ (32 - (k + 1)) + lo / 2 ^ (k + 1)) c
      obtain ⟨bt, hbt⟩ : ∃ bt, lo.testBit k = bt := ⟨_, rfl⟩
      have hcell := HRw.out.cell k hk
      rw [hbt] at hM hcell
      generalize (hi * 2 ^ (32 - (k + 1)) + lo / 2 ^ (k + 1)) / c = q at *
      generalize (hi * 2 ^ (32 - (k + 1)) + lo / 2 ^ (k + 1)) % c = r at *
      have hN : hi * 2 ^ (32 - k) + lo / 2 ^ k = c * (2 * q) + (2 * r + bt.toNat) := by rw [hM, ← hdm, Nat.mul_left_comm]; omega
      have HN := hide hN
      have hbn : bt.toNat ≤ 1 := by cases bt <;> decide
      have HD : Hid (2 * r + bt.toNat < c → (hi * 2 ^ (32 - k) + lo / 2 ^ k) / c = 2 * q ∧ (hi * 2 ^ (32 - k) + lo / 2 ^ k) % c = 2 * r + bt.toNat) := fun h => by
        rw [hN, Nat.mul_add_div (by omega), Nat.mul_add_mod, Nat.div_eq_of_lt h, Nat.mod_eq_of_lt h]
        exact ⟨rfl, rfl⟩
      have HE : Hid (¬ 2 * r + bt.toNat < c → (hi * 2 ^ (32 - k) + lo / 2 ^ k) / c = 2 * q + 1 ∧ (hi * 2 ^ (32 - k) + lo / 2 ^ k) % c = 2 * r + bt.toNat - c) := fun h => by
        rw [hN, Nat.mul_add_div (by omega), Nat.mul_add_mod, show (2 * r + bt.toNat) / c = 1 from Nat.div_eq_of_lt_le (by omega) (by omega), Nat.mod_eq_sub_mod (by omega), Nat.mod_eq_of_lt (by omega)]
        exact ⟨rfl, rfl⟩
      have w1' : wrap64 (2 * (r : Int)) = 2 * (r : Int) := by unfold wrap64; omega
      have w2' : wrap64 (2 * (r : Int) + 1) = 2 * (r : Int) + 1 := by unfold wrap64; omega
      have w3' : wrap64 (2 * (q : Int)) = 2 * (q : Int) := by unfold wrap64; omega
      have w4' : wrap64 (2 * (q : Int) + 1) = 2 * (q : Int) + 1 := by unfold wrap64; omega
      clear hN hM hdm hbit hbt
      by_cases hlt : 2 * r + bt.toNat < c
      · have hd := HD.out hlt
        have hd1 := hide hd.1
        have hd2 := hide hd.2
        clear hd HD HE
        cases bt
        · have dd : decide ((c : Int) ≤ 2 * (r : Int)) = false := by simp at hlt ⊢; omega
          go_wp2
          go_roundw
          case rel => exact ⟨k, by omega, by rw [hd2.out]; simp, by rw [hd1.out]; simp, by go_num, HRw.out, HW.out⟩
          case measure => simp [intOf]
        · have dd : decide ((c : Int) ≤ 2 * (r : Int) + 1) = false := by simp at hlt ⊢; omega
          go_wp2
          go_roundw
          case rel => exact ⟨k, by omega, by rw [hd2.out]; simp, by rw [hd1.out]; simp, by go_num, HRw.out, HW.out⟩
          case measure => simp [intOf]
      · have hd := HE.out hlt
        have hd1 := hide hd.1
        have hd2 := hide hd.2
        clear hd HD HE
        cases bt
        · have dd : decide ((c : Int) ≤ 2 * (r : Int)) = true := by simp at hlt ⊢; omega
          have w5' : wrap64 (2 * (r : Int) - (c : Int)) = 2 * (r : Int) - (c : Int) := by unfold wrap64; omega
          have sb : ((2 * r + Bool.toNat false - c : Nat) : Int) = 2 * (r : Int) - (c : Int) := by simp at hlt ⊢; omega
          have HSb := hide sb
          clear sb
          go_wp2
          go_roundw
          case rel => exact ⟨k, by omega, by rw [hd2.out, HSb.out], by rw [hd1.out]; simp, by go_num, HRw.out, HW.out⟩
          case measure => simp [intOf]
        · have dd : decide ((c : Int) ≤ 2 * (r : Int) + 1) = true := by simp at hlt ⊢; omega
          have w5' : wrap64 (2 * (r : Int) + 1 - (c : Int)) = 2 * (r : Int) + 1 - (c : Int) := by unfold wrap64; omega
          have sb : ((2 * r + Bool.toNat true - c : Nat) : Int) = 2 * (r : Int) + 1 - (c : Int) := by simp at hlt ⊢; omega
          have HSb := hide sb
          clear sb
          go_wp2
          go_roundw
          case rel => exact ⟨k, by omega, by rw [hd2.out, HSb.out], by rw [hd1.out]; simp, by go_num, HRw.out, HW.out⟩
          case measure => simp [intOf]
    | zero =>
      rw [show hi * 2 ^ (32 - 0) + lo / 2 ^ 0 = hi * 4294967296 + lo by simp]
      have hq : (hi * 4294967296 + lo) / c < 4294967296 := by
        rw [Nat.div_lt_iff_lt_mul (by omega)]
        have h2 : (hi + 1) * 4294967296 ≤ c * 4294967296 := Nat.mul_le_mul_right _ hh
        rw [Nat.mul_comm 4294967296 c]
        omega
      have hr : (hi * 4294967296 + lo) % c < c := Nat.mod_lt _ (by omega)
      obtain ⟨q, eq⟩ : ∃ q, (hi * 4294967296 + lo) / c = q := ⟨_, rfl⟩
      obtain ⟨r, er⟩ : ∃ r, (hi * 4294967296 + lo) % c = r := ⟨_, rfl⟩
      rw [eq] at hq
      rw [er] at hr
      rw [eq, er]
      have EQ := hide eq
      have ER := hide er
      clear eq er
      have e1 : (q : Int) % 4294967296 = (q : Int) := by omega
      have e2 : (r : Int) % 4294967296 = (r : Int) := by omega
      go_wp2
      go_ret3
      exact ⟨by rw [EQ.out, ER.out]; rfl, HW.out⟩
end Go.Proofs.YtegkodgondlcmaaDoor
