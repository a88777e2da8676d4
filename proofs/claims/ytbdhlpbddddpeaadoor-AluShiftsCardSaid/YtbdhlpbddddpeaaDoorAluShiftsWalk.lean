/-
  Walk of the law AluShifts.
-/
import Derived.Test.YtbdhlpbddddpeaaDoorAluTurn
import Derived.LoopTactic
namespace Go.Proofs.YtbdhlpbddddpeaaDoor.aluShifts
open Go.RowKit FerryAlu
set_option linter.unusedVariables false

theorem sar3 (w : World) : Calls Tryd.prog 11 #[.int .i64 8, .int .u32 4294967293, .int .u32 1] w fun e w' => e = .returned (.int .u32 4294967294) ∧ w = w' := do_of (do_sar 4294967293 1 w (by decide) (by decide))
theorem rot3 (w : World) : Calls Tryd.prog 14 #[.int .u32 2147483649, .int .i64 1] w fun e w' => e = .returned (.int .u32 3) ∧ w = w' := rotate_any 2147483649 1 w (by decide)

/-- The law's own do answers so. -/
def Does (w : World) (op : Int) (b c r : Int) : Prop := Calls Tryd.prog 11 #[.int .i64 op, .int .u32 b, .int .u32 c] w fun e w' => e = .returned (.int .u32 r) ∧ w = w'

set_option maxRecDepth 100000 in
set_option maxHeartbeats 600000 in
theorem walk (x n k : Nat) (m : Int) (w : World) (L R A P : Nat → Nat) (S : Nat → Int) (hk32 : k < 32) (hk : Hid ((n : Int) % 32 = (k : Int)))
    (l0 : Hid (L 0 = x)) (r0 : Hid (R 0 = x)) (a0 : Hid (A 0 = x)) (p0 : Hid (P 0 = 1))
    (ls : Hid (∀ j, j < k → ((L j : Int) + (L j : Int)) % 4294967296 = (L (j + 1) : Int))) (ps : Hid (∀ j, j < k → ((P j : Int) + (P j : Int)) % 4294967296 = (P (j + 1) : Int)))
    (rs : Hid (∀ j, j < k → Does w 10 (R j) 2 (R (j + 1)))) (as1 : Hid (∀ j, j < k → Does w 8 (A j) 1 (A (j + 1))))
    (d6 : Hid (Does w 6 x n (L k))) (d7 : Hid (Does w 7 x n (R k))) (d8 : Hid (Does w 8 x n (A k))) (d9 : Hid (Does w 9 x (P k) (L k)))
    (ss : Hid (∀ q, q < k → (S q < 0 → wrap64 ((wrap64 (S q - 1)).tdiv 2) = S (q + 1)) ∧ (0 ≤ S q → wrap64 ((S q).tdiv 2) = S (q + 1))))
    (t o ld : Nat) (rt : Hid (∀ w : World, Calls Tryd.prog 14 #[.int .u32 (x : Int), .int .i64 m] w fun e w' => e = .returned (.int .u32 (t : Int)) ∧ w = w'))
    (o1 : Hid (∀ w : World, Calls Tryd.prog 15 #[.int .u32 (t : Int)] w fun e w' => e = .returned (.int .i64 (o : Int)) ∧ Below w.heap.size w w'))
    (o2 : Hid (∀ w : World, Calls Tryd.prog 15 #[.int .u32 (x : Int)] w fun e w' => e = .returned (.int .i64 (o : Int)) ∧ Below w.heap.size w w'))
    (ll : Hid (∀ w : World, Calls Tryd.prog 16 #[.int .u32 (x : Int)] w fun e w' => e = .returned (.int .i64 (ld : Int)) ∧ w = w'))
    (rb : Hid (∀ w : World, Calls Tryd.prog 14 #[.int .u32 (t : Int), .int .i64 (wrap64 (-m.tmod 32))] w fun e w' => e = .returned (.int .u32 (x : Int)) ∧ w = w'))
    (rm : Hid (∀ w : World, Calls Tryd.prog 14 #[.int .u32 (x : Int), .int .i64 (m.tmod 32)] w fun e w' => e = .returned (.int .u32 (t : Int)) ∧ w = w'))
    (hl : Hid ((x = 0 ∧ ld = 32) ∨ (x ≠ 0 ∧ ld < 32 ∧ ∀ w : World, Does w 7 x (31 - (ld : Int)) 1)))
    (sk : Hid (Calls Tryd.prog 12 #[.int .u32 (A k : Int)] w fun e w' => e = .returned (.int .i64 (S k)) ∧ w = w'))
    (sx : Hid (Calls Tryd.prog 12 #[.int .u32 (x : Int)] w fun e w' => e = .returned (.int .i64 (S 0)) ∧ w = w')) :
    Calls Tryd.prog 6 #[.int .u32 (x : Int), .int .u32 (n : Int), .int .i64 m] w fun e w' => e = .returned (.bool true) ∧ Below w.heap.size w w' := by
  have F1 := hide (sar3 w)
  have F2 := hide (rot3 w)
  go_enter Tryd.func6, Tryd.ntmps6
  go_wp2_with fail
  refine Calls.mono F1.out ?_
  rintro e w' ⟨rfl, rfl⟩
  go_wp2_with fail
  refine Calls.mono F2.out ?_
  rintro e w' ⟨rfl, rfl⟩
  go_wp2_with fail
  go_loop [8, 9, 10, 11, 12] (fun l r a p i => ∃ j : Nat, j ≤ k ∧ l = .int .u32 (L j : Int) ∧ r = .int .u32 (R j : Int) ∧ a = .int .u32 (A j : Int) ∧ p = .int .u32 (P j : Int) ∧ i = .int .u32 (j : Int))
    (fun _ _ _ _ i => k - (intOf i).toNat)
  case atStart => exact ⟨0, Nat.zero_le _, by rw [l0.out], by rw [r0.out], by rw [a0.out], by rw [p0.out]; rfl, rfl⟩
  case round =>
    obtain ⟨j, hj, rfl, rfl, rfl, rfl, rfl⟩ := hrel
    by_cases hjk : j < k
    · have t1 := ls.out j hjk
      have t2 := ps.out j hjk
      have t3 := hide (rs.out j hjk)
      have t4 := hide (as1.out j hjk)
      have hjI : decide ((j : Int) < (n : Int) % 32) = true := by have := hk.out; simp; omega
      go_wp2_with fail
      refine Calls.mono t3.out ?_
      rintro e w' ⟨rfl, rfl⟩
      go_wp2_with fail
      refine Calls.mono t4.out ?_
      rintro e w' ⟨rfl, rfl⟩
      go_wp2_with fail
      go_round
      case rel =>
        exact ⟨j + 1, by omega, rfl, rfl, rfl, rfl, by go_num⟩
      case measure => simp [intOf]; omega
    · have hjI : decide ((j : Int) < (n : Int) % 32) = false := by have := hk.out; simp; omega
      obtain rfl : j = k := by omega
      go_wp2_with fail
      refine Calls.mono d6.out ?_
      rintro e w' ⟨rfl, rfl⟩
      go_wp2_with fail
      refine Calls.mono d7.out ?_
      rintro e w' ⟨rfl, rfl⟩
      go_wp2_with fail
      refine Calls.mono d8.out ?_
      rintro e w' ⟨rfl, rfl⟩
      go_wp2_with fail
      refine Calls.mono d9.out ?_
      rintro e w' ⟨rfl, rfl⟩
      go_wp2_with fail
      refine Calls.mono sx.out ?_
      rintro e w' ⟨rfl, rfl⟩
      go_wp2_with fail
      go_loop [13, 14] (fun s i => ∃ q : Nat, q ≤ j ∧ s = .int .i64 (S q) ∧ i = .int .u32 (q : Int)) (fun _ i => j - (intOf i).toNat)
      case atStart => exact ⟨0, Nat.zero_le _, rfl, rfl⟩
      case round =>
        obtain ⟨q, hq, rfl, rfl⟩ := hrel
        by_cases hqj : q < j
        · have hqI : decide ((q : Int) < (n : Int) % 32) = true := by have := hk.out; simp; omega
          have c1 := (ss.out q hqj).1
          have c2 := (ss.out q hqj).2
          by_cases hneg : S q < 0
          · have c3 := c1 hneg
            have hd : decide (S q < 0) = true := by simp; omega
            clear c1 c2
            go_wp2_with fail
            go_round
            case rel => exact ⟨q + 1, by omega, by rw [c3], by go_num⟩
            case measure => simp [intOf]; omega
          · have c3 := c2 (by omega)
            have hd : decide (S q < 0) = false := by simp; omega
            clear c1 c2
            go_wp2_with fail
            go_round
            case rel => exact ⟨q + 1, by omega, by rw [c3], by go_num⟩
            case measure => simp [intOf]; omega
        · have hqI : decide ((q : Int) < (n : Int) % 32) = false := by have := hk.out; simp; omega
          obtain rfl : q = j := by omega
          go_wp2_with fail
          refine Calls.mono sk.out ?_
          rintro e w' ⟨rfl, rfl⟩
          go_wp2_with fail
          refine Calls.mono (rt.out _) ?_
          rintro e w' ⟨rfl, rfl⟩
          go_wp2_with fail
          refine Calls.mono (o1.out _) ?_
          rintro e w1 ⟨rfl, b1⟩
          have B1 := hide b1
          clear b1
          go_wp2_with fail
          refine Calls.mono (o2.out _) ?_
          rintro e w2 ⟨rfl, b2⟩
          have B2 := hide b2
          clear b2
          go_wp2_with fail
          refine Calls.mono (rb.out _) ?_
          rintro e w' ⟨rfl, rfl⟩
          go_wp2_with fail
          refine Calls.mono (rm.out _) ?_
          rintro e w' ⟨rfl, rfl⟩
          rcases hl.out with ⟨hx0, hl0⟩ | ⟨hx0, hl0, hsh⟩
          · subst hx0 hl0
            go_wp2_with fail
            refine Calls.mono (ll.out _) ?_
            rintro e w' ⟨rfl, rfl⟩
            go_wp2
            go_ret
            exact ⟨rfl, chain B1.out B2.out⟩
          · have HS := hide hsh
            clear hsh
            have hd1 : ((ld : Int) == 32) = false := by simp; omega
            have hd2 : decide ((ld : Int) < 32) = true := by simp; omega
            go_wp2_with fail
            refine Calls.mono (ll.out _) ?_
            rintro e w' ⟨rfl, rfl⟩
            go_wp2_with fail
            refine Calls.mono (ll.out _) ?_
            rintro e w' ⟨rfl, rfl⟩
            go_wp2_with fail
            refine Calls.mono (ll.out _) ?_
            rintro e w' ⟨rfl, rfl⟩
            go_wp2_with fail
            refine Calls.mono (HS.out _) ?_
            rintro e w' ⟨rfl, rfl⟩
            go_wp2
            go_ret
            exact ⟨rfl, chain B1.out B2.out⟩

theorem half_pow (z : Int) (j : Nat) : z / ((2 ^ (j + 1) : Nat) : Int) = z / ((2 ^ j : Nat) : Int) / 2 := by
  rw [Nat.pow_succ, Int.natCast_mul, Int.ediv_ediv, if_neg (fun h => absurd h.1 (Int.not_lt.2 (Int.natCast_nonneg _))), Int.sub_zero]
  rfl
theorem half_range {z : Int} (h1 : -2147483648 ≤ z) (h2 : z ≤ 2147483647) (j : Nat) : -2147483648 ≤ z / ((2 ^ j : Nat) : Int) ∧ z / ((2 ^ j : Nat) : Int) ≤ 2147483647 := by
  induction j with
  | zero => simpa using ⟨h1, h2⟩
  | succ j ih => rw [half_pow]; omega
theorem tmod32 (m : Int) : ∃ q, 32 * q + m.tmod 32 = m ∧ -32 < m.tmod 32 ∧ m.tmod 32 < 32 := by
  have h := tmod_size (a := m) (b := 32) (by decide)
  exact ⟨m.tdiv 32, Int.mul_tdiv_add_tmod m 32, h.2, h.1⟩
theorem neg_half {z : Int} (h : z < 0) : (z - 1).tdiv 2 = z / 2 := by
  have e : z - 1 = -(1 - z) := by omega
  rw [e, Int.neg_tdiv, Int.tdiv_eq_ediv_of_nonneg (by omega)]
  omega

theorem law (x n : Nat) (m : Int) (w : World) (hx : x < 4294967296) (hn : n < 4294967296) (hm0 : -9223372036854775808 ≤ m) (hm1 : m ≤ 9223372036854775807) :
    Calls Tryd.prog 6 #[.int .u32 (x : Int), .int .u32 (n : Int), .int .i64 m] w fun e w' => e = .returned (.bool true) ∧ Below w.heap.size w w' := by
  have hr := half_range (sg_ge x) (sg_le hx)
  have hpow : ∀ j, j < 32 → 2 ^ j ≤ 2147483648 := fun j hj => Nat.pow_le_pow_right (n := 2) (j := 31) (by decide) (by omega)
  have g : ∀ {w : World} {op a b r r' : Int}, Does w op a b r → r = r' → Does w op a b r' := fun h e => e ▸ h
  have l : ∀ n : Nat, n % 4294967296 < 4294967296 := fun n => Nat.mod_lt _ (by decide)
  have ld2 : ∀ j, x / 2 ^ j < 4294967296 := fun j => Nat.lt_of_le_of_lt (Nat.div_le_self _ _) hx
  have hj : (m % 32).toNat < 32 := by omega
  obtain ⟨qm, e32, t1, t2⟩ := tmod32 m
  have hl32 : FerryCrc.lenOf x ≤ 32 := FerryCrc.lenOf_le (k := 32) hx
  refine walk x n (n % 32) m w (fun j => x * 2 ^ j % 4294967296) (fun j => x / 2 ^ j) (fun j => un (sg x / ((2 ^ j : Nat) : Int))) (fun j => 2 ^ j) (fun j => sg x / ((2 ^ j : Nat) : Int)) (Nat.mod_lt _ (by decide)) (by unfold Hid; omega)
    (by unfold Hid; simp; omega) (by unfold Hid; simp) (by unfold Hid; simp [un_sg hx]) (by unfold Hid; simp) ?ls ?ps ?rs ?as1
    (do_of (do_shl x n w hx hn)) (do_of (do_shr x n w hx hn)) (do_of (do_sar x n w hx hn)) (do_of (do_mul x _ w hx (by have := hpow (n % 32) (Nat.mod_lt _ (by decide)); omega))) ?ss
    (rot x (m % 32).toNat) (pop 32 x) (32 - FerryCrc.lenOf x) (fun w => rotate_any x m w hx) (fun w => ?o1) (fun w => ones_any x w hx) (fun w => lead_any x w hx) (fun w => ?rb) (fun w => ?rm) ?hl ?sk ?sx
  case ls =>
    intro j _
    simp only [Nat.pow_succ, ← Nat.mul_assoc]
    omega
  case ps =>
    intro j h
    have := hpow (j + 1) (by omega)
    simp only [Nat.pow_succ] at *
    omega
  case rs =>
    intro j _
    refine g (do_of (do_divu (x / 2 ^ j) 2 w (ld2 j) (by decide) (by decide))) ?_
    simp only [Nat.div_div_eq_div_mul, Nat.pow_succ]
  case as1 =>
    intro j _
    refine g (do_of (do_sar _ 1 w (un_lt _) (by decide))) ?_
    rw [sg_un (hr j).1 (hr j).2]
    rw [show ((2 ^ (1 % 32) : Nat) : Int) = 2 by decide, half_pow]
  case ss =>
    intro j _
    have := hr j
    refine ⟨fun hneg => ?_, fun hpos => ?_⟩
    · simp only [half_pow] at *
      rw [show wrap64 (sg x / ((2 ^ j : Nat) : Int) - 1) = sg x / ((2 ^ j : Nat) : Int) - 1 by unfold wrap64; omega, neg_half hneg]
      unfold wrap64
      omega
    · simp only [half_pow] at *
      rw [Int.tdiv_eq_ediv_of_nonneg hpos]
      unfold wrap64
      omega
  case o1 =>
    have := ones_any (rot x (m % 32).toNat) w (rot_lt hx (by omega))
    rw [rot_pop hx (by omega)] at this
    exact this
  case rb =>
    have h := rotate_any (rot x (m % 32).toNat) (wrap64 (-m.tmod 32)) w (rot_lt hx (by omega))
    have e : rot (rot x (m % 32).toNat) (wrap64 (-m.tmod 32) % 32).toNat = x := by
      rw [show wrap64 (-m.tmod 32) = -m.tmod 32 by unfold wrap64; omega]
      by_cases h0 : (m % 32).toNat = 0
      · rw [show (-m.tmod 32 % 32).toNat = 0 by omega, h0, rot_zero hx, rot_zero hx]
      · rw [show (-m.tmod 32 % 32).toNat = 32 - (m % 32).toNat by omega]
        exact rot_back hx (by omega)
    rw [e] at h
    exact h
  case rm =>
    have h := rotate_any x (m.tmod 32) w hx
    rw [show (m.tmod 32 % 32).toNat = (m % 32).toNat by omega] at h
    exact h
  case hl =>
    by_cases h0 : x = 0
    · subst h0
      exact .inl ⟨rfl, by decide⟩
    · refine .inr ⟨h0, ?_, fun w => ?_⟩
      · have : FerryCrc.lenOf x ≠ 0 := by unfold FerryCrc.lenOf; rw [if_neg h0]; omega
        omega
      · have e : FerryCrc.lenOf x = Nat.log2 x + 1 := by unfold FerryCrc.lenOf; rw [if_neg h0]
        have h := do_of (do_shr x (Nat.log2 x) w hx (by omega))
        have h1 := Nat.log2_self_le h0
        have h2 : x < 2 ^ (Nat.log2 x + 1) := Nat.lt_log2_self
        rw [show x / 2 ^ (Nat.log2 x % 32) = 1 by
          rw [Nat.mod_eq_of_lt (by omega)]
          apply Nat.div_eq_of_lt_le
          · rw [Nat.one_mul]; exact h1
          · rw [Nat.pow_succ] at h2; omega] at h
        rw [e, show (31 : Int) - ((32 - (Nat.log2 x + 1) : Nat) : Int) = (Nat.log2 x : Int) by omega]
        exact h
  case sk =>
    have h := signed_any (un (sg x / ((2 ^ (n % 32) : Nat) : Int))) w (un_lt _)
    rw [sg_un (hr _).1 (hr _).2] at h
    exact h
  case sx =>
    have h := signed_any x w hx
    unfold Hid
    simpa using h
end Go.Proofs.YtbdhlpbddddpeaaDoor.aluShifts
