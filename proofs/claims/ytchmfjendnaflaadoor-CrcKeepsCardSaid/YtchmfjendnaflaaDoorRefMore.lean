/-
  Walk of the document's More.
-/
import Derived.Test.YtchmfjendnaflaaDoorRefSum
namespace Go.Proofs.YtchmfjendnaflaaDoor
open Go.RowKit FerryCrc

theorem refMore_any (r : Nat) (a : Option Addr) (len cap : Nat) (l : List Nat) (w : World) (h : r < 4294967296) (hs : Bts w a len cap l) :
    Calls Tryd.prog 34 #[.int .u32 (r : Int), .slice a len cap] w fun e w' => e = .returned (.int .u32 (moreOf r l : Nat)) ∧ w = w' := by
  have hm := hs.most
  obtain ⟨n, hn, hne⟩ : ∃ n : Nat, bits .xor .u32 (r : Int) 4294967295 = (n : Int) ∧ n = r ^^^ 4294967295 := ⟨_, xor_not h, rfl⟩
  have hnlt : n < 4294967296 := by rw [hne]; exact not_lt h
  have hr := mvs_lt hnlt hs.small
  have HN := hide hne
  clear hne
  have hsz := hide hs.size
  go_enter Tryd.func34, Tryd.ntmps34
  go_wp2
  go_loop [5, 6] (fun t i => ∃ k : Nat, k ≤ len ∧ i = .int .i64 k ∧ t = .int .u32 (mvs n (l.take k) : Nat)) (fun _ i => len - (intOf i).toNat)
  case atStart => exact ⟨0, by omega, rfl, rfl⟩
  case round =>
    obtain ⟨k, hk, rfl, rfl⟩ := hrel
    have hx := mvs_upto_lt (k := k) hnlt hs.small
    by_cases hlt : k < len
    · obtain ⟨b, off, rfl, c, hl, hc⟩ := hs.cell k hlt
      have hc8 : c < 256 := hs.small c (List.mem_of_getElem? hl)
      have HS := hide (mvs_next (r := n) hl)
      clear hl hs
      generalize mvs n (l.take k) = x at *
      go_wp2_with (go_at_call 49; refine (move_any _ _ _ hx hc8).mono ?_; rintro e w' ⟨rfl, rfl⟩)
      go_round
      case rel => exact ⟨k + 1, by omega, by go_num, by rw [HS.out]⟩
      case measure => simp [intOf]; omega
    · have hk8 : k = len := by omega
      subst hk8
      go_wp2
      go_ret
      exact ⟨ret_int (by rw [List.take_of_length_le (by rw [hsz.out]; exact Nat.le_refl _), xor_not hr, HN.out]; rfl), rfl⟩

end Go.Proofs.YtchmfjendnaflaaDoor
