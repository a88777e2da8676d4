/-
  Contracts of the document's bit and Burst.
-/
import Derived.Test.YtchmfjendnaflaaDoorBurstMath
namespace FerryCrc
theorem num_bitq {l : List Nat} (h : ∀ c ∈ l, c < 256) (i : Nat) : (num l).testBit i = (l[i / 8]?.getD 0).testBit (i % 8) := by
  have := num_bit h (i / 8) (i % 8) (Nat.mod_lt _ (by decide))
  rw [← split8] at this
  exact this
/-- What is known of the lowest and the highest set bit below i. -/
def Seen (D i : Nat) (f t : Int) : Prop :=
  (f = -1 ∧ t = -1 ∧ ∀ q, q < i → D.testBit q = false) ∨
  ∃ f' t' : Nat, f = (f' : Int) ∧ t = (t' : Int) ∧ f' ≤ t' ∧ t' < i ∧ D.testBit f' = true ∧ D.testBit t' = true ∧ (∀ q, q < f' → D.testBit q = false) ∧ ∀ q, t' < q → q < i → D.testBit q = false
theorem Seen.none {D i : Nat} (h : ∀ q, q < i → D.testBit q = false) : Seen D i (-1) (-1) := .inl ⟨rfl, rfl, h⟩
theorem Seen.some {D i : Nat} (f t : Nat) (h1 : f ≤ t) (h2 : t < i) (h3 : D.testBit f = true) (h4 : D.testBit t = true) (h5 : ∀ q, q < f → D.testBit q = false) (h6 : ∀ q, t < q → q < i → D.testBit q = false) : Seen D i (f : Int) (t : Int) :=
  .inr ⟨f, t, rfl, rfl, h1, h2, h3, h4, h5, h6⟩
theorem Seen.same {D i : Nat} {f t : Int} (h : Seen D i f t) (hi : D.testBit i = false) : Seen D (i + 1) f t := by
  rcases h with ⟨rfl, rfl, h⟩ | ⟨f, t, rfl, rfl, h1, h2, h3, h4, h5, h6⟩
  · exact Seen.none fun q hq => (Nat.lt_or_eq_of_le (Nat.le_of_lt_succ hq)).elim (h q) (fun e => e ▸ hi)
  · exact Seen.some f t h1 (by omega) h3 h4 h5 fun q a b => (Nat.lt_or_eq_of_le (Nat.le_of_lt_succ b)).elim (h6 q a) (fun e => e ▸ hi)
theorem succ_all {P : Nat → Prop} {i : Nat} (h : ∀ q, q < i → P q) (hi : P i) : ∀ q, q < i + 1 → P q := fun q hq =>
  (Nat.lt_or_eq_of_le (Nat.le_of_lt_succ hq)).elim (h q) (fun e => e ▸ hi)
theorem num_high {l : List Nat} {n : Nat} (hl : l.length = n) (h : ∀ c ∈ l, c < 256) (q : Nat) (hq : 8 * n ≤ q) : (num l).testBit q = false := by
  rw [num_bitq h, List.getElem?_eq_none (by omega)]
  simp
end FerryCrc
namespace Go.Proofs.YtchmfjendnaflaaDoor
open Go.RowKit FerryCrc

theorem and_bit64 {x k : Nat} {t : Bool} (h : x < 256) (g : x.testBit k = t) : bits .and .i64 (wrap64 ((x : Int) / 2 ^ k)) 1 = ((t.toNat : Nat) : Int) := by
  have e : ((x : Int) / 2 ^ k) = ((x / 2 ^ k : Nat) : Int) := by simp
  have hlt : x / 2 ^ k < 256 := Nat.lt_of_le_of_lt (Nat.div_le_self _ _) h
  rw [e, ← g, Nat.testBit_eq_decide_div_mod_eq]
  generalize x / 2 ^ k = y at *
  rw [wrap_little (by omega)]
  have hb : bits .and .i64 (y : Int) 1 = ((y % 2 : Nat) : Int) := by
    have := bits_mask .i64 63 (by decide) (fun n h0 h1 => by rw [IntKind.wrap_i64]; omega) 1 (by decide) (y : Int) (by omega) (by omega)
    simpa using this
  rw [hb]
  rcases Nat.mod_two_eq_zero_or_one y with h | h <;> simp [h]

set_option maxRecDepth 100000 in
theorem bit_any (a : Option Addr) (n ca : Nat) (l : List Nat) (i : Nat) (w : World) (hs : Bts w a n ca l) (hi : i < 8 * n) :
    Calls Tryd.prog 43 #[.slice a n ca, .int .i64 (i : Int)] w fun e w' => e = .returned (.int .i64 (((num l).testBit i).toNat : Nat)) ∧ w = w' := by
  have hm := hs.most
  have hi8 : i / 8 < n := by omega
  obtain ⟨b, o, rfl, x, hx, cx⟩ := hs.cell (i / 8) hi8
  have hx8 := hs.small x (List.mem_of_getElem? hx)
  have hb : (num l).testBit i = x.testBit (i % 8) := by rw [num_bitq hs.small, hx]; rfl
  have hv := hide (and_bit64 hx8 hb.symm)
  clear hs hb hx
  generalize (num l).testBit i = B at *
  go_enter Tryd.func43, Tryd.ntmps43
  go_wp2
  go_ret
  exact ⟨congrArg (fun z : Int => Ending.returned (Value.int .i64 z)) hv.out, rfl⟩

theorem val_or {G k : Nat} (hG : G < 2 ^ k) (hk : k ≤ 31) : bits .or .u32 (G : Int) (2 ^ k % 4294967296) = ((G ^^^ 2 ^ k : Nat) : Int) := by
  have hp : 2 ^ k ≤ 2147483648 := Nat.le_trans (Nat.pow_le_pow_right (by decide) hk) (by decide)
  have e : ((2 : Int) ^ k % 4294967296) = ((2 ^ k : Nat) : Int) := by
    have : ((2 ^ k : Nat) : Int) = (2 : Int) ^ k := by simp
    rw [← this]
    omega
  have h := or_eq_xor (d := 1) hG
  rw [Nat.shiftLeft_eq, Nat.one_mul] at h
  rw [e, ← h]
  exact u32_or_nat G (2 ^ k) (by omega) (by omega)

set_option maxRecDepth 100000 in
set_option maxHeartbeats 1000000 in
theorem refBurst_any (a b : Option Addr) (n ca cb : Nat) (l r : List Nat) (w : World) (ha : Bts w a n ca l) (hb : Bts w b n cb r) :
    Calls Tryd.prog 24 #[.slice a n ca, .slice b n cb] w fun e w' => w = w' ∧
      ((num l ^^^ num r = 0 ∧ e = .returned (.tuple #[.int .i64 0, .int .u32 0, .int .i64 17])) ∨
       ∃ p, (num l ^^^ num r).testBit p = true ∧ (∀ q, q < p → (num l ^^^ num r).testBit q = false) ∧
        ((32 < lenOf (num l ^^^ num r) - p ∧ e = .returned (.tuple #[.int .i64 0, .int .u32 0, .int .i64 4])) ∨
         (lenOf (num l ^^^ num r) - p ≤ 32 ∧ e = .returned (.tuple #[.int .i64 (p : Int), .int .u32 (((num l ^^^ num r) / 2 ^ p % 4294967296 : Nat) : Int), .int .i64 0])))) := by
  have hn := ha.most
  have HA := hide (fun i hi => bit_any a n ca l i w ha hi)
  have HB := hide (fun i hi => bit_any b n cb r i w hb hi)
  have HX := hide (fun i => Nat.testBit_xor (x := num l) (y := num r) (i := i))
  have HH : Hid (∀ q, 8 * n ≤ q → (num l ^^^ num r).testBit q = false) := fun q hq => by rw [Nat.testBit_xor, num_high ha.size ha.small q hq, num_high hb.size hb.small q hq]; rfl
  have hnn : ((n : Int) != (n : Int)) = false := by simp
  clear ha hb
  obtain ⟨D, HD⟩ : ∃ D, Hid (num l ^^^ num r = D) := ⟨_, rfl⟩
  rw [HD.out] at HH ⊢
  have HX2 : Hid (∀ i, D.testBit i = ((num l).testBit i ^^ (num r).testBit i)) := fun i => by rw [← HD.out]; exact HX.out i
  generalize num l = A at *
  generalize num r = B at *
  go_enter Tryd.func24, Tryd.ntmps24
  go_wp2
  go_loop [7, 8, 9] (fun u v i => ∃ k : Nat, k ≤ 8 * n ∧ i = .int .i64 k ∧ ∃ f t : Int, u = .int .i64 f ∧ v = .int .i64 t ∧ Seen D k f t) (fun _ _ i => 8 * n - (intOf i).toNat)
  case atStart => exact ⟨0, by omega, rfl, -1, -1, rfl, rfl, Seen.none fun q hq => by omega⟩
  case round =>
    obtain ⟨k, hk, rfl, f, t, rfl, rfl, hseen⟩ := hrel
    have HSE := hide hseen
    clear hseen
    by_cases hlt : k < 8 * n
    · have g1 : decide ((k : Int) < 8 * (n : Int)) = true := by simp; omega
      go_wp2_with fail
      refine (HA.out k hlt).mono ?_
      rintro e w1 ⟨rfl, rfl⟩
      go_wp2_with fail
      refine (HB.out k hlt).mono ?_
      rintro e w2 ⟨rfl, rfl⟩
      have hx := HX2.out k
      cases h1 : A.testBit k <;> cases h2 : B.testBit k <;> rw [h1, h2] at hx <;> have HK := hide hx <;> clear hx h1 h2
      · go_wp2
        go_round
        case rel => exact ⟨k + 1, by omega, by go_num, f, t, rfl, rfl, HSE.out.same HK.out⟩
        case measure => simp [intOf]; omega
      · rcases HSE.out with ⟨rfl, rfl, h⟩ | ⟨f, t, rfl, rfl, h1, h2, h3, h4, h5, h6⟩
        · go_wp2
          go_round
          case rel => exact ⟨k + 1, by omega, by go_num, k, k, rfl, rfl, Seen.some k k (Nat.le_refl _) (by omega) HK.out HK.out h (fun q h1 h2 => by omega)⟩
          case measure => simp [intOf]; omega
        · have gf : decide ((f : Int) < 0) = false := by simp
          have HT := hide (Seen.some (D := D) (i := k + 1) f k (by omega) (by omega) h3 HK.out h5 (fun q h1 h2 => by omega))
          clear h3 h4 h5 h6 HSE
          go_wp2
          go_round
          case rel => exact ⟨k + 1, by omega, by go_num, f, k, rfl, rfl, HT.out⟩
          case measure => simp [intOf]; omega
      · rcases HSE.out with ⟨rfl, rfl, h⟩ | ⟨f, t, rfl, rfl, h1, h2, h3, h4, h5, h6⟩
        · go_wp2
          go_round
          case rel => exact ⟨k + 1, by omega, by go_num, k, k, rfl, rfl, Seen.some k k (Nat.le_refl _) (by omega) HK.out HK.out h (fun q h1 h2 => by omega)⟩
          case measure => simp [intOf]; omega
        · have gf : decide ((f : Int) < 0) = false := by simp
          have HT := hide (Seen.some (D := D) (i := k + 1) f k (by omega) (by omega) h3 HK.out h5 (fun q h1 h2 => by omega))
          clear h3 h4 h5 h6 HSE
          go_wp2
          go_round
          case rel => exact ⟨k + 1, by omega, by go_num, f, k, rfl, rfl, HT.out⟩
          case measure => simp [intOf]; omega
      · go_wp2
        go_round
        case rel => exact ⟨k + 1, by omega, by go_num, f, t, rfl, rfl, HSE.out.same HK.out⟩
        case measure => simp [intOf]; omega
    · obtain rfl : k = 8 * n := by omega
      have g1 : decide (((8 * n : Nat) : Int) < 8 * (n : Int)) = false := by simp
      rcases HSE.out with ⟨rfl, rfl, h⟩ | ⟨f, t, rfl, rfl, h1, h2, h3, h4, h5, h6⟩
      · have hz : D = 0 := by
          apply Nat.eq_of_testBit_eq
          intro q
          by_cases hq : q < 8 * n
          · rw [h q hq]; simp
          · rw [HH.out q (by omega)]; simp
        have HZ := hide hz
        clear hz h
        go_wp2
        go_ret3
        exact ⟨rfl, .inl ⟨HZ.out, rfl⟩⟩
      · have hlt2 : D < 2 ^ (t + 1) := by
          apply Nat.lt_pow_two_of_testBit
          intro q hq
          by_cases hq2 : q < 8 * n
          · exact h6 q (by omega) hq2
          · exact HH.out q (by omega)
        have HL := hide (lenOf_uniq (n := t) (Nat.ge_two_pow_of_testBit h4) hlt2)
        have HLT := hide hlt2
        have H3 := hide h3
        have H5 := hide h5
        clear hlt2 h3 h4 h5 h6 HSE
        have gf : decide ((f : Int) < 0) = false := by simp
        by_cases hw : 31 < t - f
        · have g2 : decide (31 < (t : Int) - (f : Int)) = true := by simp; omega
          go_wp2
          go_ret3
          exact ⟨rfl, .inr ⟨f, H3.out, H5.out, .inl ⟨by rw [HL.out]; omega, rfl⟩⟩⟩
        · have g2 : decide (31 < (t : Int) - (f : Int)) = false := by simp; omega
          go_wp2
          go_loop [10, 11] (fun m i => ∃ k : Nat, f ≤ k ∧ k ≤ t + 1 ∧ i = .int .i64 k ∧ m = .int .u32 (D / 2 ^ f % 2 ^ (k - f) : Nat)) (fun _ i => t + 1 - (intOf i).toNat)
          case atStart => exact ⟨f, by omega, by omega, rfl, by rw [Nat.sub_self, Nat.pow_zero, Nat.mod_one]; rfl⟩
          case round =>
            obtain ⟨k, hfk, hkt, rfl, rfl⟩ := hrel
            by_cases hlt3 : k ≤ t
            · have g3 : decide ((k : Int) ≤ (t : Int)) = true := by simp; omega
              obtain ⟨j, hj⟩ : ∃ j, Hid (k - f = j) := ⟨_, rfl⟩
              have hj31 : j ≤ 31 := by have := hj.out; omega
              have e5 : (k : Int) - (f : Int) = (j : Int) := by have := hj.out; omega
              have HN := hide (mod_succ_bit (D / 2 ^ f) j)
              have HJ : Hid (k + 1 - f = j + 1) := by have := hj.out; unfold Hid; omega
              have HBT : Hid ((D / 2 ^ f).testBit j = D.testBit k) := by
                unfold Hid
                rw [← Nat.shiftRight_eq_div_pow, Nat.testBit_shiftRight]
                congr 1
                have := hj.out
                omega
              have HGL : Hid (D / 2 ^ f % 2 ^ j < 2 ^ j) := Nat.mod_lt _ (Nat.two_pow_pos j)
              rw [hj.out]
              rw [HBT.out] at HN
              generalize D / 2 ^ f % 2 ^ j = G at *
              have hk8 : k < 8 * n := by omega
              go_wp2_with fail
              refine (HA.out k hk8).mono ?_
              rintro e w1 ⟨rfl, rfl⟩
              go_wp2_with fail
              refine (HB.out k hk8).mono ?_
              rintro e w2 ⟨rfl, rfl⟩
              have hx := HX2.out k
              cases h7 : A.testBit k <;> cases h8 : B.testBit k <;> rw [h7, h8] at hx <;> have HK := hide hx <;> clear hx h7 h8
              · rw [HK.out, if_neg (by decide), Nat.xor_zero] at HN
                go_wp2
                go_round
                case rel => exact ⟨k + 1, by omega, by omega, by go_num, by rw [HJ.out, HN.out]⟩
                case measure => simp [intOf]; omega
              · rw [HK.out, if_pos (by decide)] at HN
                go_wp2
                go_round
                case rel => exact ⟨k + 1, by omega, by omega, by go_num, by rw [HJ.out, HN.out, ← val_or HGL.out hj31]⟩
                case measure => simp [intOf]; omega
              · rw [HK.out, if_pos (by decide)] at HN
                go_wp2
                go_round
                case rel => exact ⟨k + 1, by omega, by omega, by go_num, by rw [HJ.out, HN.out, ← val_or HGL.out hj31]⟩
                case measure => simp [intOf]; omega
              · rw [HK.out, if_neg (by decide), Nat.xor_zero] at HN
                go_wp2
                go_round
                case rel => exact ⟨k + 1, by omega, by omega, by go_num, by rw [HJ.out, HN.out]⟩
                case measure => simp [intOf]; omega
            · obtain rfl : k = t + 1 := by omega
              have g3 : decide (((t + 1 : Nat) : Int) ≤ (t : Int)) = false := by simp; omega
              have hq : D / 2 ^ f < 2 ^ (t + 1 - f) := by
                rw [Nat.div_lt_iff_lt_mul (Nat.two_pow_pos f), ← Nat.pow_add, show t + 1 - f + f = t + 1 by omega]
                exact HLT.out
              have hq2 : D / 2 ^ f < 4294967296 := Nat.lt_of_lt_of_le hq (Nat.le_trans (Nat.pow_le_pow_right (by decide) (show t + 1 - f ≤ 32 by omega)) (by decide))
              have HQ : Hid (D / 2 ^ f % 2 ^ (t + 1 - f) = D / 2 ^ f % 4294967296) := by unfold Hid; rw [Nat.mod_eq_of_lt hq, Nat.mod_eq_of_lt hq2]
              clear hq hq2
              rw [HQ.out]
              go_wp2
              go_ret3
              exact ⟨rfl, .inr ⟨f, H3.out, H5.out, .inr ⟨by rw [HL.out]; omega, rfl⟩⟩⟩
end Go.Proofs.YtchmfjendnaflaaDoor
