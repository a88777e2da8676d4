/-
  Walks of the document's Sum and More.
-/
import Derived.Test.YtdbciciljeainaaDoorRefMove
namespace Go.Proofs.YtdbciciljeainaaDoor
open Go.RowKit FerryCrc

theorem refSum_any (a : Option Addr) (len cap : Nat) (l : List Nat) (w : World) (hs : Bts w a len cap l) :
    Calls Tryd.prog 76 #[.slice a len cap] w fun e w' => e = .returned (.int .u32 (sumOf l : Nat)) ∧ w = w' := by
  have hm := hs.most
  have hr := mvs_lt (show 4294967295 < 4294967296 by decide) hs.small
  have hsz := hide hs.size
  go_enter Tryd.func76, Tryd.ntmps76
  go_wp2
  go_loop [3, 4] (fun t i => ∃ k : Nat, k ≤ len ∧ i = .int .i64 k ∧ t = .int .u32 (mvs 4294967295 (l.take k) : Nat)) (fun _ i => len - (intOf i).toNat)
  case atStart => exact ⟨0, by omega, rfl, rfl⟩
  case round =>
    obtain ⟨k, hk, rfl, rfl⟩ := hrel
    have hx := mvs_upto_lt (k := k) (show 4294967295 < 4294967296 by decide) hs.small
    by_cases hlt : k < len
    · obtain ⟨b, off, rfl, c, hl, hc⟩ := hs.cell k hlt
      have hc8 : c < 256 := hs.small c (List.mem_of_getElem? hl)
      have HS := hide (mvs_next (r := 4294967295) hl)
      clear hl hs
      generalize mvs 4294967295 (l.take k) = x at *
      go_wp2_with (go_at_call 89; refine (move_any _ _ _ hx hc8).mono ?_; rintro e w' ⟨rfl, rfl⟩)
      go_round
      case rel => exact ⟨k + 1, by omega, by go_num, by rw [HS.out]⟩
      case measure => simp [intOf]; omega
    · have hk8 : k = len := by omega
      subst hk8
      go_wp2
      go_ret
      exact ⟨ret_int (by rw [List.take_of_length_le (by rw [hsz.out]; exact Nat.le_refl _), xor_not hr]; rfl), rfl⟩

end Go.Proofs.YtdbciciljeainaaDoor
