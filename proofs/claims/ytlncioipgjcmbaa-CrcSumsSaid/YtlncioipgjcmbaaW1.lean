/- Walks of the leaves: moveBit and the document's move. -/
import Derived.Test.YtlncioipgjcmbaaRows
import Derived.Test.YtlncioipgjcmbaaMath
import Derived.WalkKit
import Derived.WalkSpells
import Derived.WalkLawsBesides
import Derived.Laws.BitsAllLaws
import Derived.Outline
namespace Go.Proofs.Ytlncioipgjcmbaa
open Go.RowKit FerryCrc

theorem hide {p : Prop} (h : p) : Hid p := h
theorem ret_int {k : IntKind} {a b : Int} (h : a = b) : Ending.returned (.int k a) = .returned (.int k b) := by rw [h]

theorem and1 (r : Nat) (h : r < 4294967296) : bits .and .u32 (r : Int) 1 = ((r % 2 : Nat) : Int) := by
  have := u32_and_nat r 1 h (by decide)
  rw [Nat.and_one_is_mod] at this
  exact this
theorem way_one {r : Nat} (h : r < 4294967296) (g : (bits .and .u32 (r : Int) 1 == 1) = true) : r % 2 = 1 := by
  rw [and1 r h] at g
  have := beq_iff_eq.1 g
  omega
theorem way_zero {r : Nat} (h : r < 4294967296) (g : (bits .and .u32 (r : Int) 1 == 1) = false) : ¬ r % 2 = 1 := by
  rw [and1 r h] at g
  have := beq_eq_false_iff_ne.1 g
  omega
theorem half (r : Nat) : ((r : Int) / 2) = ((r / 2 : Nat) : Int) := by omega
theorem val_one {r : Nat} (h : r < 4294967296) (g : r % 2 = 1) : bits .xor .u32 ((r : Int) / 2) 3988292384 = ((bit1 r : Nat) : Int) := by
  rw [half]
  have := u32_xor_nat (r / 2) poly (by omega) (by decide)
  unfold bit1
  rw [if_pos g]
  exact this
theorem val_zero {r : Nat} (g : ¬ r % 2 = 1) : ((r : Int) / 2) = ((bit1 r : Nat) : Int) := by
  unfold bit1
  rw [if_neg g, half]

theorem moveBit_any (r : Nat) (w : World) (h : r < 4294967296) :
    Calls Try.prog 13 #[.int .u32 (r : Int)] w fun e w' => e = .returned (.int .u32 (bit1 r : Nat)) ∧ w = w' := by
  go_enter Try.func13, Try.ntmps13
  go_wp2
  · go_ret
    exact ⟨ret_int (val_one h (way_one h ‹_›)), rfl⟩
  · go_ret
    exact ⟨ret_int (val_zero (way_zero h ‹_›)), rfl⟩

theorem conv_xor {r c : Nat} (h : r < 4294967296) (hc : c < 256) : bits .xor .u32 (r : Int) (c : Int) = ((r ^^^ c : Nat) : Int) :=
  u32_xor_nat r c h (by omega)

theorem move_any (r c : Nat) (w : World) (h : r < 4294967296) (hc : c < 256) :
    Calls Try.prog 10 #[.int .u32 (r : Int), .int .u8 (c : Int)] w fun e w' => e = .returned (.int .u32 (mv r c : Nat)) ∧ w = w' := by
  go_enter Try.func10, Try.ntmps10
  go_wp2
  go_loop [0, 5] (fun t i => ∃ k : Nat, k ≤ 8 ∧ i = .int .i64 k ∧ t = .int .u32 (bitsN k (r ^^^ c) : Nat)) (fun _ i => 8 - (intOf i).toNat)
  case atStart => exact ⟨0, by omega, rfl, by rw [conv_xor h hc]; rfl⟩
  case round =>
    obtain ⟨k, hk, rfl, rfl⟩ := hrel
    have hx := bitsN_lt (n := k) (xor_lt32 h (show c < 4294967296 by omega))
    have HS := hide (bitsN_succ k (r ^^^ c))
    by_cases hlt : k < 8
    · generalize hgx : bitsN k (r ^^^ c) = x at *
      clear hgx
      go_wp2
      · go_round
        case rel => exact ⟨k + 1, by omega, by go_num, by rw [HS.out, val_one hx (way_one hx ‹_›)]⟩
        case measure => simp [intOf]; omega
      · go_round
        case rel => exact ⟨k + 1, by omega, by go_num, by rw [HS.out, val_zero (way_zero hx ‹_›)]⟩
        case measure => simp [intOf]; omega
    · have hk8 : k = 8 := by omega
      subst hk8
      go_wp2
      go_ret
      exact ⟨rfl, rfl⟩
end Go.Proofs.Ytlncioipgjcmbaa
