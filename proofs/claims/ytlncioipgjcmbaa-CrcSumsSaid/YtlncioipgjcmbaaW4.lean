/- Walks of Sum and More, of the program and of the document, and of the fixed fact on the nine digits. -/
import Derived.Test.YtlncioipgjcmbaaW3
namespace Go.Proofs.Ytlncioipgjcmbaa
open Go.RowKit FerryCrc

theorem chain {w w1 w2 : World} (h : Below w.heap.size w w1) (k : Below w1.heap.size w1 w2) : Below w.heap.size w w2 := h.trans (k.mono h.size)
theorem not_xor {r : Nat} (h : r < 4294967296) : bits .xor .u32 IntKind.u32.max (r : Int) = ((r ^^^ 4294967295 : Nat) : Int) := by
  have := u32_xor_nat 4294967295 r (by decide) h
  rw [Nat.xor_comm] at this
  exact this
theorem xor_not {r : Nat} (h : r < 4294967296) : bits .xor .u32 (r : Int) 4294967295 = ((r ^^^ 4294967295 : Nat) : Int) :=
  u32_xor_nat r 4294967295 h (by decide)
theorem not_lt {r : Nat} (h : r < 4294967296) : r ^^^ 4294967295 < 4294967296 := xor_lt32 h (by decide)

def sumOf (l : List Nat) : Nat := mvs 4294967295 l ^^^ 4294967295
def moreOf (r : Nat) (l : List Nat) : Nat := mvs (r ^^^ 4294967295) l ^^^ 4294967295

theorem more_any (r : Nat) (a : Option Addr) (len cap : Nat) (l : List Nat) (w : World) (h : r < 4294967296) (hs : Bts w a len l) :
    Calls Try.prog 8 #[.int .u32 (r : Int), .slice a len cap] w fun e w' => e = .returned (.int .u32 (moreOf r l : Nat)) ∧ Below w.heap.size w w' := by
  have hr := mvs_lt (not_lt h) hs.small
  have HC := hide (moveOn_any (r ^^^ 4294967295) a len cap l w (not_lt h) hs)
  have HR := hide (not_xor hr)
  have HQ : Hid (moreOf r l = mvs (r ^^^ 4294967295) l ^^^ 4294967295) := rfl
  have HN := hide (not_xor h)
  clear hr hs h
  generalize moreOf r l = m at *
  generalize r ^^^ 4294967295 = n at *
  generalize mvs n l = x at *
  go_enter Try.func8, Try.ntmps8
  go_wp2_with fail
  rw [HN.out]
  refine HC.out.mono ?_
  rintro e w' ⟨rfl, hb⟩
  go_wp2
  go_ret
  exact ⟨ret_int (by rw [HR.out, HQ.out]), hb⟩

theorem sum_any (a : Option Addr) (len cap : Nat) (l : List Nat) (w : World) (hs : Bts w a len l) :
    Calls Try.prog 7 #[.slice a len cap] w fun e w' => e = .returned (.int .u32 (sumOf l : Nat)) ∧ Below w.heap.size w w' := by
  have HC := more_any 0 a len cap l w (by decide) hs
  have hq : moreOf 0 l = sumOf l := rfl
  rw [hq] at HC
  have HH := hide HC
  clear HC
  go_enter Try.func7, Try.ntmps7
  go_wp2_with (go_at_call 8; refine HH.out.mono ?_; rintro e w' ⟨rfl, hb⟩)
  go_ret
  exact ⟨rfl, hb⟩

theorem refSum_any (a : Option Addr) (len cap : Nat) (l : List Nat) (w : World) (hs : Bts w a len l) :
    Calls Try.prog 5 #[.slice a len cap] w fun e w' => e = .returned (.int .u32 (sumOf l : Nat)) ∧ w = w' := by
  have hm := hs.most
  have hr := mvs_lt (show 4294967295 < 4294967296 by decide) hs.small
  have hsz := hide hs.size
  go_enter Try.func5, Try.ntmps5
  go_wp2
  go_loop [3, 4] (fun t i => ∃ k : Nat, k ≤ len ∧ i = .int .i64 k ∧ t = .int .u32 (mvs 4294967295 (l.take k) : Nat)) (fun _ i => len - (intOf i).toNat)
  case atStart => exact ⟨0, by omega, rfl, rfl⟩
  case round =>
    obtain ⟨k, hk, rfl, rfl⟩ := hrel
    have hx := mvs_upto_lt (k := k) (show 4294967295 < 4294967296 by decide) hs.small
    by_cases hlt : k < len
    · obtain ⟨b, off, rfl, c, hl, hc⟩ := hs.cell k hlt
      have hc8 : c < 256 := hs.small c (List.mem_of_getElem? hl)
      have HS := hide (mvs_next (r := 4294967295) hl)
      clear hl hs
      generalize mvs 4294967295 (l.take k) = x at *
      go_wp2_with (go_at_call 10; refine (move_any _ _ _ hx hc8).mono ?_; rintro e w' ⟨rfl, rfl⟩)
      go_round
      case rel => exact ⟨k + 1, by omega, by go_num, by rw [HS.out]⟩
      case measure => simp [intOf]; omega
    · have hk8 : k = len := by omega
      subst hk8
      go_wp2
      go_ret
      exact ⟨ret_int (by rw [List.take_of_length_le (by rw [hsz.out]; exact Nat.le_refl _), xor_not hr]; rfl), rfl⟩

theorem refMore_any (r : Nat) (a : Option Addr) (len cap : Nat) (l : List Nat) (w : World) (h : r < 4294967296) (hs : Bts w a len l) :
    Calls Try.prog 6 #[.int .u32 (r : Int), .slice a len cap] w fun e w' => e = .returned (.int .u32 (moreOf r l : Nat)) ∧ w = w' := by
  have hm := hs.most
  obtain ⟨n, hn, hne⟩ : ∃ n : Nat, bits .xor .u32 (r : Int) 4294967295 = (n : Int) ∧ n = r ^^^ 4294967295 := ⟨_, xor_not h, rfl⟩
  have hnlt : n < 4294967296 := by rw [hne]; exact not_lt h
  have hr := mvs_lt hnlt hs.small
  have HN := hide hne
  clear hne
  have hsz := hide hs.size
  go_enter Try.func6, Try.ntmps6
  go_wp2
  go_loop [5, 6] (fun t i => ∃ k : Nat, k ≤ len ∧ i = .int .i64 k ∧ t = .int .u32 (mvs n (l.take k) : Nat)) (fun _ i => len - (intOf i).toNat)
  case atStart => exact ⟨0, by omega, rfl, rfl⟩
  case round =>
    obtain ⟨k, hk, rfl, rfl⟩ := hrel
    have hx := mvs_upto_lt (k := k) hnlt hs.small
    by_cases hlt : k < len
    · obtain ⟨b, off, rfl, c, hl, hc⟩ := hs.cell k hlt
      have hc8 : c < 256 := hs.small c (List.mem_of_getElem? hl)
      have HS := hide (mvs_next (r := n) hl)
      clear hl hs
      generalize mvs n (l.take k) = x at *
      go_wp2_with (go_at_call 10; refine (move_any _ _ _ hx hc8).mono ?_; rintro e w' ⟨rfl, rfl⟩)
      go_round
      case rel => exact ⟨k + 1, by omega, by go_num, by rw [HS.out]⟩
      case measure => simp [intOf]; omega
    · have hk8 : k = len := by omega
      subst hk8
      go_wp2
      go_ret
      exact ⟨ret_int (by rw [List.take_of_length_le (by rw [hsz.out]; exact Nat.le_refl _), xor_not hr, HN.out]; rfl), rfl⟩

def nine : List Nat := [49, 50, 51, 52, 53, 54, 55, 56, 57]
theorem nine_sum : sumOf nine = 3421780262 := by decide +kernel
def nineCells : Array Value := #[.int .u8 49, .int .u8 50, .int .u8 51, .int .u8 52, .int .u8 53, .int .u8 54, .int .u8 55, .int .u8 56, .int .u8 57]

theorem nine_bts (w : World) : Bts (w.alloc (.cells nineCells 5)) (some ⟨w.heap.size, 0, none⟩) 9 nine := by
  refine ⟨rfl, by decide, by decide, fun k hk => ⟨_, _, rfl, ?_⟩⟩
  rw [World.cell?_alloc_at _ _ _ _ rfl]
  match k, hk with
  | 0, _ => exact ⟨_, rfl, rfl⟩
  | 1, _ => exact ⟨_, rfl, rfl⟩
  | 2, _ => exact ⟨_, rfl, rfl⟩
  | 3, _ => exact ⟨_, rfl, rfl⟩
  | 4, _ => exact ⟨_, rfl, rfl⟩
  | 5, _ => exact ⟨_, rfl, rfl⟩
  | 6, _ => exact ⟨_, rfl, rfl⟩
  | 7, _ => exact ⟨_, rfl, rfl⟩
  | 8, _ => exact ⟨_, rfl, rfl⟩

theorem nine_any (w : World) :
    Calls Try.prog 9 #[] w fun e w' => e = .returned (.slice (some ⟨w.heap.size, 0, none⟩) 9 9) ∧ w' = w.alloc (.cells nineCells 5) := by
  go_enter Try.func9, Try.ntmps9
  go_wp2
  go_ret
  exact ⟨rfl, rfl⟩

theorem awake_any (w : World) :
    Calls Try.prog 4 #[] w fun e w' => e = .returned (.bool true) ∧ Below w.heap.size w w' := by
  have hb := nine_bts w
  have hn := nine_sum
  go_enter Try.func4, Try.ntmps4
  go_wp2_with (first | (go_at_call 9; refine (nine_any w).mono ?_; rintro e w' ⟨rfl, rfl⟩) | (go_at_call 7; refine (sum_any _ 9 9 nine _ hb).mono ?_; rintro e w' ⟨rfl, hb2⟩))
  go_ret
  exact ⟨rfl, ((Below.refl _ _).alloc (Nat.le_refl _) _).trans (hb2.mono (by simp))⟩

theorem law (r : Nat) (a : Option Addr) (len cap : Nat) (l : List Nat) (w : World) (h : r < 4294967296) (hs : Bts w a len l) :
    Calls Try.prog 3 #[.slice a len cap, .int .u32 (r : Int)] w fun e w' => e = .returned (.bool true) ∧ Below w.heap.size w w' := by
  go_enter Try.func3, Try.ntmps3
  go_wp2_with fail
  refine (awake_any w).mono ?_
  rintro e w1 ⟨rfl, hb1⟩
  have hs1 := hs.below hb1
  go_wp2_with (first | (go_at_call 5; refine (refSum_any a len cap l w1 hs1).mono ?_; rintro e w' ⟨rfl, rfl⟩) | (go_at_call 6; refine (refMore_any r a len cap l w1 h hs1).mono ?_; rintro e w' ⟨rfl, rfl⟩) | (go_at_call 7; refine (sum_any a len cap l w1 hs1).mono ?_; rintro e w2 ⟨rfl, hb2⟩) | (go_at_call 8; refine (more_any r a len cap l w2 h (hs1.below hb2)).mono ?_; rintro e w3 ⟨rfl, hb3⟩))
  go_ret
  exact ⟨rfl, chain (chain hb1 hb2) hb3⟩
end Go.Proofs.Ytlncioipgjcmbaa
