/-
  Contract of crc.Burst.
-/
import Derived.Test.YtchmfjendnaflaaDoorLen
import Derived.Test.YtchmfjendnaflaaDoorUnlike
import Derived.Test.YtchmfjendnaflaaDoorErrIs
import Derived.BigQuiet
namespace FerryCrc
/-- The lowest bit of a byte that is set; 8 where none is. -/
def low8 (x : Nat) : Nat := ((List.range 8).find? (fun j => x.testBit j)).getD 8
def lowTab : ByteArray := ⟨#[8, 0, 1, 0, 2, 0, 1, 0, 3, 0, 1, 0, 2, 0, 1, 0, 4, 0, 1, 0, 2, 0, 1, 0, 3, 0, 1, 0, 2, 0, 1, 0, 5, 0, 1, 0, 2, 0, 1, 0, 3, 0, 1, 0, 2, 0, 1, 0, 4, 0, 1, 0, 2, 0, 1, 0, 3, 0, 1, 0, 2, 0, 1, 0, 6, 0, 1, 0, 2, 0, 1, 0, 3, 0, 1, 0, 2, 0, 1, 0, 4, 0, 1, 0, 2, 0, 1, 0, 3, 0, 1, 0, 2, 0, 1, 0, 5, 0, 1, 0, 2, 0, 1, 0, 3, 0, 1, 0, 2, 0, 1, 0, 4, 0, 1, 0, 2, 0, 1, 0, 3, 0, 1, 0, 2, 0, 1, 0, 7, 0, 1, 0, 2, 0, 1, 0, 3, 0, 1, 0, 2, 0, 1, 0, 4, 0, 1, 0, 2, 0, 1, 0, 3, 0, 1, 0, 2, 0, 1, 0, 5, 0, 1, 0, 2, 0, 1, 0, 3, 0, 1, 0, 2, 0, 1, 0, 4, 0, 1, 0, 2, 0, 1, 0, 3, 0, 1, 0, 2, 0, 1, 0, 6, 0, 1, 0, 2, 0, 1, 0, 3, 0, 1, 0, 2, 0, 1, 0, 4, 0, 1, 0, 2, 0, 1, 0, 3, 0, 1, 0, 2, 0, 1, 0, 5, 0, 1, 0, 2, 0, 1, 0, 3, 0, 1, 0, 2, 0, 1, 0, 4, 0, 1, 0, 2, 0, 1, 0, 3, 0, 1, 0, 2, 0, 1, 0]⟩
theorem lowTab_size : lowTab.size = 256 := by decide +kernel
theorem lowTab_at : ∀ x : Fin 256, (lowTab[x.1]'(by rw [lowTab_size]; exact x.2)).toNat = low8 x.1 := by decide +kernel
theorem low8_fin : ∀ x : Fin 256, x.1 ≠ 0 → low8 x.1 < 8 ∧ x.1.testBit (low8 x.1) = true ∧ ∀ j : Fin 8, j.1 < low8 x.1 → x.1.testBit j.1 = false := by decide +kernel
theorem low8_le : ∀ x : Fin 256, low8 x.1 ≤ 8 := by decide +kernel
/-- In which bits the bytes at i differ. -/
def dif (l r : List Nat) (i : Nat) : Nat := l[i]?.getD 0 ^^^ r[i]?.getD 0
def gat (l r : List Nat) (f : Nat) : Nat → Nat
  | 0 => 0
  | k + 1 => gat l r f k ^^^ (dif l r (f + k) <<< (8 * k))
theorem dif_lt {l r : List Nat} (hl : ∀ c ∈ l, c < 256) (hr : ∀ c ∈ r, c < 256) (i : Nat) : dif l r i < 256 := by
  have aux : ∀ (l : List Nat), (∀ c ∈ l, c < 256) → l[i]?.getD 0 < 2 ^ 8 := by
    intro l h
    cases e : l[i]? with
    | none => simp
    | some c => exact h c (List.mem_of_getElem? e)
  exact Nat.xor_lt_two_pow (n := 8) (aux l hl) (aux r hr)
theorem gat_lt {l r : List Nat} (hl : ∀ c ∈ l, c < 256) (hr : ∀ c ∈ r, c < 256) (f k : Nat) : gat l r f k < 2 ^ (8 * k) := by
  induction k with
  | zero => simp [gat]
  | succ k ih =>
    rw [gat]
    refine Nat.xor_lt_two_pow (Nat.lt_of_lt_of_le ih (Nat.pow_le_pow_right (by decide) (by omega))) ?_
    rw [Nat.shiftLeft_eq, show 8 * (k + 1) = 8 + 8 * k by omega, Nat.pow_add]
    exact Nat.mul_lt_mul_of_pos_right (dif_lt hl hr _) (Nat.two_pow_pos _)
theorem or_eq_xor {G d n : Nat} (hG : G < 2 ^ n) : G ||| (d <<< n) = G ^^^ (d <<< n) := by
  apply Nat.eq_of_testBit_eq
  intro i
  rw [Nat.testBit_or, Nat.testBit_xor, Nat.testBit_shiftLeft]
  by_cases h : n ≤ i
  · rw [Nat.testBit_lt_two_pow (Nat.lt_of_lt_of_le hG (Nat.pow_le_pow_right (by decide) h))]
    simp
  · simp [h]
end FerryCrc
namespace Go.Proofs.YtchmfjendnaflaaDoor
open Go.RowKit FerryCrc

set_option maxRecDepth 100000 in
theorem tz8_any (x : Nat) (w : World) (hx : x < 256) :
    Calls Tryd.prog 45 #[.int .u8 (x : Int)] w fun e w' => e = .returned (.int .i64 (low8 x : Int)) ∧ w = w' := by
  have HT := hide (lowTab_at ⟨x, hx⟩)
  have HL := hide (low8_le ⟨x, hx⟩)
  go_enter Tryd.func45, Tryd.ntmps45
  go_wp2
  go_ret
  refine ⟨?_, rfl⟩
  have h1 := HL.out
  exact congrArg (fun n : Int => Ending.returned (Value.int .i64 n)) ((congrArg (fun n : Nat => wrap64 (n : Int)) HT.out).trans (wrap_little (by omega)))

theorem cell_over3 {w w' : World} {a : Addr} {v : Value} (h : w.cell? a = some v) (hb : Below w.heap.size w w') : w'.cell? a = some v := by
  rw [hb.cell (p := a) (block_lt_of_cell h)]
  exact h
theorem val_gat {G d k : Nat} (hG : G < 2 ^ (8 * k)) (hd : d < 256) (hk : k ≤ 4) : bits .or .u64 (G : Int) (IntKind.u64.wrap ((d : Int) * 2 ^ (8 * k))) = ((G ^^^ (d <<< (8 * k)) : Nat) : Int) := by
  rw [← or_eq_xor hG, Nat.shiftLeft_eq]
  have hG2 : G < 18446744073709551616 := Nat.lt_of_lt_of_le hG (Nat.le_trans (Nat.pow_le_pow_right (by decide) (show 8 * k ≤ 64 by omega)) (by decide))
  have hP : 2 ^ (8 * k) ≤ 4294967296 := Nat.le_trans (Nat.pow_le_pow_right (by decide) (show 8 * k ≤ 32 by omega)) (by decide)
  have e : ((d : Int) * 2 ^ (8 * k)) = ((d * 2 ^ (8 * k) : Nat) : Int) := by simp
  have hm : d * 2 ^ (8 * k) ≤ 255 * 4294967296 := Nat.mul_le_mul (by omega) hP
  rw [e]
  generalize d * 2 ^ (8 * k) = q at *
  rw [IntKind.wrap_u64, Int.emod_eq_of_lt (by omega) (by omega)]
  exact u64_or_nat G q hG2 (by omega)
theorem dif_at {l r : List Nat} {i x y : Nat} (h1 : l[i]? = some x) (h2 : r[i]? = some y) : dif l r i = x ^^^ y := by unfold dif; rw [h1, h2]; rfl

set_option maxRecDepth 100000 in
set_option maxHeartbeats 1000000 in
theorem burst_some (a b : Option Addr) (n ca cb : Nat) (l r : List Nat) (f t : Nat) (a7 : Addr) (w : World) (h7 : w.cell? ⟨5, 0, none⟩ = some (sent a7)) (ha : Bts w a n ca l) (hb : Bts w b n cb r)
    (HU : Hid (Calls Tryd.prog 44 #[.slice a n ca, .slice b n cb] w fun e w' => Below w.heap.size w w' ∧ e = .returned (.tuple #[.int .i64 (f : Int), .int .i64 (t : Int)])))
    (hft : f ≤ t) (htn : t < n) (hf0 : dif l r f ≠ 0) (ht0 : dif l r t ≠ 0) :
    Calls Tryd.prog 25 #[.slice a n ca, .slice b n cb] w fun e w' => Below w.heap.size w w' ∧
      ((32 < 8 * t + lenOf (dif l r t) - (8 * f + low8 (dif l r f)) ∧ e = .returned (.tuple #[.int .i64 0, .int .u32 0, sent a7])) ∨
       (8 * t + lenOf (dif l r t) - (8 * f + low8 (dif l r f)) ≤ 32 ∧ e = .returned (.tuple #[.int .i64 ((8 * f + low8 (dif l r f) : Nat) : Int), .int .u32 ((gat l r f (t + 1 - f) / 2 ^ low8 (dif l r f) % 4294967296 : Nat) : Int), .nilIface]))) := by
  have hn := ha.most
  have HA := hide ha
  have HB := hide hb
  have H7 := hide h7
  obtain ⟨x1, x1h, y1, y1h, D1, x2, x2h, y2, y2h, D2⟩ : ∃ x1, l[f]? = some x1 ∧ ∃ y1, r[f]? = some y1 ∧ dif l r f = x1 ^^^ y1 ∧ ∃ x2, l[t]? = some x2 ∧ ∃ y2, r[t]? = some y2 ∧ dif l r t = x2 ^^^ y2 := by
    obtain ⟨_, _, _, x1, hx1, _⟩ := ha.cell f (by omega)
    obtain ⟨_, _, _, y1, hy1, _⟩ := hb.cell f (by omega)
    obtain ⟨_, _, _, x2, hx2, _⟩ := ha.cell t htn
    obtain ⟨_, _, _, y2, hy2, _⟩ := hb.cell t htn
    exact ⟨x1, hx1, y1, hy1, dif_at hx1 hy1, x2, hx2, y2, hy2, dif_at hx2 hy2⟩
  have lx1 := ha.small x1 (List.mem_of_getElem? x1h)
  have ly1 := hb.small y1 (List.mem_of_getElem? y1h)
  have lx2 := ha.small x2 (List.mem_of_getElem? x2h)
  have ly2 := hb.small y2 (List.mem_of_getElem? y2h)
  have ld1 : x1 ^^^ y1 < 256 := Nat.xor_lt_two_pow (n := 8) lx1 ly1
  have ld2 : x2 ^^^ y2 < 256 := Nat.xor_lt_two_pow (n := 8) lx2 ly2
  have v1 := u8_xor_nat x1 y1 lx1 ly1
  have v2 := u8_xor_nat x2 y2 lx2 ly2
  have HZ := hide (fun w => tz8_any (x1 ^^^ y1) w ld1)
  have HL := hide (fun w => len8_any (x2 ^^^ y2) w ld2)
  have hz := (low8_fin ⟨x1 ^^^ y1, ld1⟩ (fun h => hf0 (D1.trans h))).1
  have hl := lenOf_le (x := x2 ^^^ y2) (k := 8) ld2
  have hl1 : 0 < lenOf (x2 ^^^ y2) := by rw [← D2]; unfold lenOf; rw [if_neg ht0]; omega
  rw [D1, D2]
  have HD1 := hide D1
  have HD2 := hide D2
  clear D1 D2
  generalize x1 ^^^ y1 = d1 at *
  generalize x2 ^^^ y2 = d2 at *
  simp only at hz
  generalize low8 d1 = z at *
  generalize lenOf d2 = e2 at *
  have X1 := hide x1h
  have Y1 := hide y1h
  have X2 := hide x2h
  have Y2 := hide y2h
  clear ha hb h7 x1h y1h x2h y2h
  have hnn : ((n : Int) != (n : Int)) = false := by simp
  have g1 : decide ((t : Int) < (f : Int)) = false := by simp; omega
  go_enter Tryd.func25, Tryd.ntmps25
  go_wp2_with fail
  refine HU.out.mono ?_
  rintro e w1 ⟨hb1, rfl⟩
  have HB1 := hide hb1
  clear hb1
  obtain ⟨b1, o1, rfl, _, q1, c1⟩ := (HA.out.below HB1.out).cell f (by omega)
  obtain rfl := Option.some.inj (X1.out.symm.trans q1)
  obtain ⟨b2, o2, rfl, _, q2, c2⟩ := (HB.out.below HB1.out).cell f (by omega)
  obtain rfl := Option.some.inj (Y1.out.symm.trans q2)
  obtain ⟨_, _, e3, _, q3, c3⟩ := (HA.out.below HB1.out).cell t htn
  simp only [Option.some.injEq, Addr.mk.injEq, and_true] at e3
  obtain ⟨rfl, rfl⟩ := e3
  obtain rfl := Option.some.inj (X2.out.symm.trans q3)
  obtain ⟨_, _, e4, _, q4, c4⟩ := (HB.out.below HB1.out).cell t htn
  simp only [Option.some.injEq, Addr.mk.injEq, and_true] at e4
  obtain ⟨rfl, rfl⟩ := e4
  obtain rfl := Option.some.inj (Y2.out.symm.trans q4)
  clear q1 q2 q3 q4
  go_wp2
  go_quiet (first | (go_at_call 45; exact Calls.quiet_of_same ((HZ.out _).mono fun _ _ h => ⟨h.1, h.2.symm⟩)))
  have HB2 := hide (below_drewN HB1.out nq)
  have c3' : (w1.drewN nq).cell? ⟨b1, o1 + t, none⟩ = some (.int .u8 (x2 : Int)) := c3
  have c4' : (w1.drewN nq).cell? ⟨b2, o2 + t, none⟩ = some (.int .u8 (y2 : Int)) := c4
  clear c1 c2 c3 c4
  generalize w1.drewN nq = w2 at *
  go_wp2
  go_quiet (first | (go_at_call 46; exact Calls.quiet_of_same ((HL.out _).mono fun _ _ h => ⟨h.1, h.2.symm⟩)))
  have HB3 := hide (below_drewN HB2.out nq)
  clear c3' c4'
  generalize w2.drewN nq = w3 at *
  by_cases hw : 32 < 8 * t + e2 - (8 * f + z)
  · have g2 : decide (32 < 8 * (t : Int) + (e2 : Int) - (8 * (f : Int) + (z : Int))) = true := by simp; omega
    have h7 := cell_over3 H7.out HB3.out
    go_wp2
    go_region
    all_goals go_wp2
    all_goals (go_ret3; exact ⟨HB3.out.drew, .inl ⟨hw, rfl⟩⟩)
  · have g2 : decide (32 < 8 * (t : Int) + (e2 : Int) - (8 * (f : Int) + (z : Int))) = false := by simp; omega
    have htf : t - f ≤ 4 := by omega
    go_wp2
    go_loopw [11, 12] (fun v i wr => ∃ j : Nat, f ≤ j ∧ j ≤ t + 1 ∧ i = .int .i64 (j : Int) ∧ v = .int .u64 (gat l r f (j - f) : Nat) ∧ Below w.heap.size w wr) (fun _ i _ => t + 1 - (intOf i).toNat)
    case atStart => exact ⟨f, by omega, by omega, rfl, by rw [Nat.sub_self]; rfl, HB3.out⟩
    case round =>
      obtain ⟨j, hfj, hjt, rfl, rfl, hbw⟩ := hrel
      have HBW := hide hbw
      clear hbw
      by_cases hlt : j ≤ t
      · obtain ⟨k, hk⟩ : ∃ k, Hid (j - f = k) := ⟨_, rfl⟩
        have hk4 : k ≤ 4 := by have := hk.out; omega
        rw [hk.out]
        have hjn : j < n := by omega
        have g3 : decide ((j : Int) ≤ (t : Int)) = true := by simp; omega
        have e5 : (j : Int) - (f : Int) = (k : Int) := by have := hk.out; omega
        obtain ⟨_, _, e3, x, qx, cx⟩ := (HA.out.below HBW.out).cell j (by omega)
        simp only [Option.some.injEq, Addr.mk.injEq, and_true] at e3
        obtain ⟨rfl, rfl⟩ := e3
        obtain ⟨_, _, e4, y, qy, cy⟩ := (HB.out.below HBW.out).cell j (by omega)
        simp only [Option.some.injEq, Addr.mk.injEq, and_true] at e4
        obtain ⟨rfl, rfl⟩ := e4
        have lx := HA.out.small x (List.mem_of_getElem? qx)
        have ly := HB.out.small y (List.mem_of_getElem? qy)
        have vd := u8_xor_nat x y lx ly
        have ld : x ^^^ y < 256 := Nat.xor_lt_two_pow (n := 8) lx ly
        have HD := hide (dif_at qx qy)
        clear qx qy
        generalize x ^^^ y = d at *
        have hG := gat_lt HA.out.small HB.out.small f k
        have HG : Hid (gat l r f (j + 1 - f) = gat l r f k ^^^ (d <<< (8 * k))) := by
          have e := hk.out
          unfold Hid
          rw [show j + 1 - f = k + 1 by omega, gat, ← HD.out, show f + k = j by omega]
        have HGL := hide hG
        clear hG
        generalize gat l r f k = G at *
        go_wp2
        go_quiet (fail)
        go_wp2
        go_roundw
        case rel =>
          refine ⟨j + 1, by omega, by omega, by go_num, ?_, below_drewN HBW.out _⟩
          rw [HG.out, val_gat HGL.out ld hk4]
        case measure => simp [intOf]; omega
      · obtain rfl : j = t + 1 := by omega
        have g3 : decide (((t + 1 : Nat) : Int) ≤ (t : Int)) = false := by simp; omega
        have e6 : (8 * (f : Int) + (z : Int)) % 8 = (z : Int) := by omega
        have e7 : (8 * (f : Int) + (z : Int)).tmod 8 = (z : Int) := by rw [Int.tmod_eq_emod_of_nonneg (by omega)]; omega
        obtain ⟨G, hG⟩ : ∃ G, Hid (gat l r f (t + 1 - f) = G) := ⟨_, rfl⟩
        rw [hG.out]
        go_wp2
        go_quiet (fail)
        go_wp2
        go_ret3
        refine ⟨below_drewN HBW.out _, .inr ⟨by omega, ?_⟩⟩
        have h1 : (8 * (f : Int) + (z : Int)) = ((8 * f + z : Nat) : Int) := by simp
        have h2 : (G : Int) / 2 ^ z % 4294967296 = ((G / 2 ^ z % 4294967296 : Nat) : Int) := by simp
        rw [← h1, hG.out, ← h2]
        rfl
end Go.Proofs.YtchmfjendnaflaaDoor
