/-
  The way back: the mathematics of undoing the moves, and the walks of the program's moveBitBack and moveBack.
-/
import Derived.Test.YtchmfjendnaflaaDoorBase
namespace FerryCrc

def bk (r : Nat) : Nat := if r / 2147483648 = 1 then (r ^^^ poly) * 2 + 1 else r * 2
def bkN : Nat → Nat → Nat
  | 0, r => r
  | n + 1, r => bk (bkN n r)
def mvb (r : Nat) : List Nat → Nat
  | [] => r
  | c :: l => bkN 8 (mvb r l) ^^^ c

theorem xor_top {r : Nat} (h : r < 4294967296) (t : r / 2147483648 = 1) : r ^^^ poly < 2147483648 := by
  have e : (r ^^^ poly) / 2147483648 = 0 := by
    have := Nat.shiftRight_xor_distrib (a := r) (b := poly) (i := 31)
    rw [Nat.shiftRight_eq_div_pow, Nat.shiftRight_eq_div_pow, Nat.shiftRight_eq_div_pow, show (2 : Nat) ^ 31 = 2147483648 by decide, t, show poly / 2147483648 = 1 by decide] at this
    rw [this]
    decide
  have := xor_lt32 h (show poly < 4294967296 by decide)
  omega
theorem bk_lt {r : Nat} (h : r < 4294967296) : bk r < 4294967296 := by
  unfold bk
  split
  · rename_i t
    have := xor_top h t
    omega
  · omega
theorem bit1_bk (r : Nat) : bit1 (bk r) = r := by
  unfold bk
  split
  · unfold bit1
    rw [if_pos (by omega), show ((r ^^^ poly) * 2 + 1) / 2 = r ^^^ poly by omega, Nat.xor_assoc, Nat.xor_self, Nat.xor_zero]
  · rw [Nat.mul_comm]
    exact bit1_two r
theorem bkN_lt {n r : Nat} (h : r < 4294967296) : bkN n r < 4294967296 := by
  induction n with
  | zero => exact h
  | succ n ih => exact bk_lt ih
theorem bitsN_bkN (n r : Nat) : bitsN n (bkN n r) = r := by
  induction n with
  | zero => rfl
  | succ n ih => rw [bitsN, bkN, bit1_bk, ih]
theorem mvb_lt {r : Nat} {l : List Nat} (h : r < 4294967296) (hl : ∀ c ∈ l, c < 256) : mvb r l < 4294967296 := by
  induction l with
  | nil => exact h
  | cons c l ih => exact xor_lt32 (bkN_lt (ih (fun x hx => hl x (by simp [hx])))) (by have := hl c (by simp); omega)
theorem mvs_mvb (r : Nat) (l : List Nat) : mvs (mvb r l) l = r := by
  induction l with
  | nil => rfl
  | cons c l ih =>
    have e : mvs (mvb r (c :: l)) (c :: l) = mvs (mv (bkN 8 (mvb r l) ^^^ c) c) l := rfl
    rw [e]
    unfold mv
    rw [Nat.xor_assoc, Nat.xor_self, Nat.xor_zero, bitsN_bkN, ih]
end FerryCrc
namespace Go.Proofs.YtchmfjendnaflaaDoor
open Go.RowKit FerryCrc

theorem or_one {x : Nat} (h : x < 2147483648) : bits .or .u32 ((x : Int) * 2) 1 = ((x * 2 + 1 : Nat) : Int) := by
  have := u32_or_nat (x * 2) 1 (by omega) (by decide)
  rw [show ((x * 2 : Nat) : Int) = (x : Int) * 2 by omega, show (((1 : Nat)) : Int) = 1 from rfl] at this
  rw [this]
  congr 1
  have h2 := Nat.two_pow_add_eq_or_of_lt (i := 1) (b := 1) (by decide) x
  rw [Nat.mul_comm x 2]
  exact h2.symm

theorem moveBitBack_any (r : Nat) (w : World) (h : r < 4294967296) :
    Calls Tryd.prog 57 #[.int .u32 (r : Int)] w fun e w' => e = .returned (.int .u32 (bk r : Nat)) ∧ w = w' := by
  by_cases t : r / 2147483648 = 1
  · have ti : ((r : Int) / 2147483648 == 1) = true := by simp; omega
    obtain ⟨x, hx, hxe⟩ : ∃ x : Nat, bits .xor .u32 (r : Int) 3988292384 = (x : Int) ∧ x = r ^^^ poly := ⟨r ^^^ poly, u32_xor_nat r poly h (by decide), rfl⟩
    have hx31 : x < 2147483648 := by rw [hxe]; exact xor_top h t
    have HV : Hid (bk r = x * 2 + 1) := by unfold Hid bk; rw [if_pos t, hxe]
    clear hxe
    go_enter Tryd.func57, Tryd.ntmps57
    go_wp2
    go_ret
    exact ⟨ret_int (by rw [HV.out, or_one hx31]), rfl⟩
  · have ti : ((r : Int) / 2147483648 == 1) = false := by simp; omega
    have hr31 : r < 2147483648 := by omega
    have HV : Hid (bk r = r * 2) := by unfold Hid bk; rw [if_neg t]
    go_enter Tryd.func57, Tryd.ntmps57
    go_wp2
    go_ret
    exact ⟨ret_int (by rw [HV.out]; omega), rfl⟩

set_option maxRecDepth 100000 in
theorem moveBack_any (r : Nat) (a : Option Addr) (len cap : Nat) (l : List Nat) (w : World) (h : r < 4294967296) (hs : Bts w a len cap l) :
    Calls Tryd.prog 48 #[.int .u32 (r : Int), .slice a len cap] w fun e w' => e = .returned (.int .u32 (mvb r l : Nat)) ∧ w = w' := by
  have hm := hs.most
  have HL := hide hs.size
  go_enter Tryd.func48, Tryd.ntmps48
  go_wp2
  go_loop [0, 5] (fun t i => ∃ j : Nat, j ≤ len ∧ i = .int .i64 ((j : Int) - 1) ∧ t = .int .u32 (mvb r (l.drop j) : Nat)) (fun _ i => (intOf i + 1).toNat)
  case atStart => exact ⟨len, Nat.le_refl _, rfl, by rw [List.drop_of_length_le (by rw [HL.out]; exact Nat.le_refl _)]; rfl⟩
  case round =>
    obtain ⟨j, hj, rfl, rfl⟩ := hrel
    by_cases h0 : j = 0
    · subst h0
      go_wp2
      go_ret
      exact ⟨rfl, rfl⟩
    · obtain ⟨k, rfl⟩ : ∃ k, j = k + 1 := ⟨j - 1, by omega⟩
      obtain ⟨b, off, rfl, c, hl, hc⟩ := hs.cell k (by omega)
      have hc8 : c < 256 := hs.small c (List.mem_of_getElem? hl)
      have hx : mvb r (l.drop (k + 1)) < 4294967296 := mvb_lt h (fun x hx => hs.small x (List.mem_of_mem_drop hx))
      have HS : Hid (mvb r (l.drop k) = bkN 8 (mvb r (l.drop (k + 1))) ^^^ c) := by
        unfold Hid
        obtain ⟨hk, he⟩ := List.getElem?_eq_some_iff.1 hl
        rw [List.drop_eq_getElem_cons hk, he]
        rfl
      clear hl hs
      have hk1 : (((k + 1 : Nat) : Int) - 1) = (k : Int) := by omega
      rw [hk1]
      clear hk1
      generalize mvb r (l.drop (k + 1)) = x at *
      have hge : decide ((0 : Int) ≤ (k : Int)) = true := by simp
      go_wp2
      go_loop [0, 13] (fun t i => ∃ n : Nat, n ≤ 8 ∧ i = .int .i64 n ∧ t = .int .u32 (bkN n x : Nat)) (fun _ i => 8 - (intOf i).toNat)
      case atStart => exact ⟨0, by omega, rfl, rfl⟩
      case round =>
        obtain ⟨n, hn, rfl, rfl⟩ := hrel
        have hy : bkN n x < 4294967296 := bkN_lt hx
        by_cases hlt : n < 8
        · have HN : Hid (bkN (n + 1) x = bk (bkN n x)) := rfl
          generalize bkN n x = y at *
          go_wp2_with (go_at_call 57; refine (moveBitBack_any _ _ hy).mono ?_; rintro e w' ⟨rfl, rfl⟩)
          go_round
          case rel => exact ⟨n + 1, by omega, by go_num, by rw [HN.out]⟩
          case measure => simp [intOf]; omega
        · obtain rfl : n = 8 := by omega
          generalize bkN 8 x = y at *
          go_wp2
          go_round
          case rel => exact ⟨k, by omega, rfl, by rw [HS.out, u32_xor_nat y c hy (by omega)]⟩
          case measure => simp [intOf]
end Go.Proofs.YtchmfjendnaflaaDoor
