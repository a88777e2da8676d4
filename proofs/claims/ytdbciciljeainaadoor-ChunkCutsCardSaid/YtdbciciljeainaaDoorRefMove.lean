/-
  Walks of the document's move of one byte.
-/
import Derived.Test.YtdbciciljeainaaDoorBase
namespace Go.Proofs.YtdbciciljeainaaDoor
open Go.RowKit FerryCrc

theorem move_any (r c : Nat) (w : World) (h : r < 4294967296) (hc : c < 256) :
    Calls Tryd.prog 89 #[.int .u32 (r : Int), .int .u8 (c : Int)] w fun e w' => e = .returned (.int .u32 (mv r c : Nat)) ∧ w = w' := by
  go_enter Tryd.func89, Tryd.ntmps89
  go_wp2
  go_loop [0, 5] (fun t i => ∃ k : Nat, k ≤ 8 ∧ i = .int .i64 k ∧ t = .int .u32 (bitsN k (r ^^^ c) : Nat)) (fun _ i => 8 - (intOf i).toNat)
  case atStart => exact ⟨0, by omega, rfl, by rw [conv_xor h hc]; rfl⟩
  case round =>
    obtain ⟨k, hk, rfl, rfl⟩ := hrel
    have hx := bitsN_lt (n := k) (xor_lt32 h (show c < 4294967296 by omega))
    have HS := hide (bitsN_succ k (r ^^^ c))
    by_cases hlt : k < 8
    · generalize hgx : bitsN k (r ^^^ c) = x at *
      clear hgx
      go_wp2
      · go_round
        case rel => exact ⟨k + 1, by omega, by go_num, by rw [HS.out, val_one hx (way_one hx ‹_›)]⟩
        case measure => simp [intOf]; omega
      · go_round
        case rel => exact ⟨k + 1, by omega, by go_num, by rw [HS.out, val_zero (way_zero hx ‹_›)]⟩
        case measure => simp [intOf]; omega
    · have hk8 : k = 8 := by omega
      subst hk8
      go_wp2
      go_ret
      exact ⟨rfl, rfl⟩

end Go.Proofs.YtdbciciljeainaaDoor
