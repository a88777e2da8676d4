/-
  Walk of the document's Turn (over RefTurnW).
-/
import Derived.Test.YtgnkmenjjmfcfaaDoorRefTurnW
import Derived.BigRegion
namespace Go.Proofs.YtgnkmenjjmfcfaaDoor
open Go.RowKit FerryCrc

theorem refTurn_low (a : Option Addr) (len cap : Nat) (l : List Nat) (pos : Int) (mask : Nat) (w : World) (hs : Bts w a len cap l) (hbad : mask = 0 ∨ pos < 0 ∨ 8 * len < pos) :
    Calls Tryd.prog 41 #[.slice a len cap, .int .i64 pos, .int .u32 (mask : Int)] w fun e w' => e = .returned (.tuple #[.slice none 0 0, .int .i64 12]) ∧ w = w' := by
  have hm := hs.most
  go_enter Tryd.func41, Tryd.ntmps41
  go_wp2
  all_goals (go_ret2; exact ⟨rfl, rfl⟩)

theorem refTurn_any (a : Option Addr) (len cap : Nat) (l : List Nat) (pos mask : Nat) (w : World) (hs : Bts w a len cap l) (h0 : mask ≠ 0) (hm : mask < 4294967296) (hp : pos ≤ 8 * len) :
    Calls Tryd.prog 41 #[.slice a len cap, .int .i64 (pos : Int), .int .u32 (mask : Int)] w fun e w' => Below w.heap.size w w' ∧
      ((Fits len pos mask ∧ ∃ g c, e = .returned (.tuple #[.slice (some ⟨g, 0, none⟩) len c, .int .i64 0]) ∧ Own w' w.heap.size (.slice (some ⟨g, 0, none⟩) len c) (turnTo l pos mask 32)) ∨
       (¬ Fits len pos mask ∧ e = .returned (.tuple #[.slice none 0 0, .int .i64 12]))) := by
  have hmost := hs.most
  have h0' : ((mask : Int) == 0) = false := by simp; omega
  have hd1 : decide ((pos : Int) < 0) = false := by simp
  have hd2 : decide (8 * (len : Int) < (pos : Int)) = false := by simp; omega
  have hown := own_empty w
  have hs1 := hs.below ((Below.refl _ _).alloc (Nat.le_refl _) (.cells #[] 5))
  go_enter Tryd.func41, Tryd.ntmps41
  go_wp2_with (at_builtin; refine append_bts rfl (.tmp 23) (.tmp 24) rfl w.heap.size (.slice (some ⟨w.heap.size, 0, none⟩) 0 0) [] rfl hown a len cap l rfl hs1 (by simp; omega) (by simp) ?_; intro v' w1 hown1 hgrow1 hnil1)
  have hne : v' ≠ .slice none 0 0 := fun e => by simpa using (hnil1.1 e).1
  rw [List.nil_append] at hown1
  obtain ⟨g, c, hv, hg⟩ := own_form hown1 hne
  rw [hs.size] at hv
  subst hv
  have hb1 : Below w.heap.size w w1 := ((Below.refl _ _).alloc (Nat.le_refl _) (.cells #[] 5)).grown hgrow1 (by simp) (by intro k e; simp [Value.ownBlock] at e; omega)
  have hsz := hide hs.size
  have hsm := hs.small
  clear hs hs1 hown hgrow1 hnil1 hne hd1 hd2
  go_loopw [9] (fun i wr => ∃ k : Nat, k ≤ 32 ∧ i = .int .i64 k ∧ Below w.heap.size w wr ∧ Own wr w.heap.size (.slice (some ⟨g, 0, none⟩) len c) (turnTo l pos mask k) ∧ ∀ i, i < k → mask.testBit i = true → pos + i < 8 * len) (fun i _ => 32 - (intOf i).toNat)
  case atStart => exact ⟨0, by omega, rfl, hb1, hown1, fun i hi => by omega⟩
  case round =>
    obtain ⟨k, hk, rfl, hb, hown, hfit⟩ := hrel
    have HF := hide hfit
    clear hfit hown1 hb1
    by_cases hlt : k < 32
    · cases hbit : mask.testBit k
      · have hbt := and_bit hm hbit
        have HT : Hid (turnTo l pos mask (k + 1) = turnTo l pos mask k) := by unfold Hid; rw [turnTo, hbit]; rfl
        have HB := hide hbit
        clear hbit
        go_wp2
        go_roundw
        case rel => exact ⟨k + 1, by omega, by go_num, hb, by rw [HT.out]; exact hown, fun i hi ht => (Nat.lt_or_eq_of_le (Nat.le_of_lt_succ hi)).elim (fun h => HF.out i h ht) (fun h => by rw [h, HB.out] at ht; simp at ht)⟩
        case measure => simp [intOf]; omega
      · have hbt := and_bit hm hbit
        have HT : Hid (turnTo l pos mask (k + 1) = flipB (turnTo l pos mask k) (pos + k)) := by unfold Hid; rw [turnTo, hbit]; rfl
        have HB := hide hbit
        clear hbit
        by_cases hin : pos + k < 8 * len
        · have hx : (pos + k) / 8 < (turnTo l pos mask k).length := by rw [turnTo_length, hsz.out]; omega
          have hsm2 := turnTo_small pos mask k hsm
          have HSZ := hide (turnTo_length l pos mask k)
          generalize turnTo l pos mask k = t at *
          obtain ⟨x, hx1⟩ : ∃ x, t[(pos + k) / 8]? = some x := ⟨_, List.getElem?_eq_getElem hx⟩
          have hx8 : x < 256 := hsm2 x (List.mem_of_getElem? hx1)
          have hcell : wr.cell? ⟨g, (pos + k) / 8, none⟩ = some (.int .u8 (x : Int)) := by
            have := World.ownsRow.cellAt (show wr.ownsRow w.heap.size 5 1 (.slice (some ⟨g, 0, none⟩) len c) len (t.map bv) from by have h := hown; unfold Own at h; rw [HSZ.out, hsz.out] at h; exact h) ((pos + k) / 8) (by omega)
            rw [this]
            simp [hx1, bv]
          have hfro : wr.frozen? ⟨g, (pos + k) / 8, none⟩ = false := World.ownsRow.frozenAt (show wr.ownsRow w.heap.size 5 1 (.slice (some ⟨g, 0, none⟩) len c) len (t.map bv) from by have h := hown; unfold Own at h; rw [HSZ.out, hsz.out] at h; exact h) _
          have HX := hide hx1
          clear hx hx1 hsm2
          go_wp2
          go_region
          all_goals go_wp2
          go_roundw
          case rel =>
            refine ⟨k + 1, by omega, by go_num, ?_, ?_, ?_⟩
            · exact (hb.setCell hg _).drew
            · rw [HT.out]
              exact own_flip hown (by rw [HSZ.out, hsz.out]) HX.out hx8
            · intro i hi ht
              rcases Nat.lt_or_eq_of_le (Nat.le_of_lt_succ hi) with h | h
              · exact HF.out i h ht
              · rw [h]; exact hin
          case measure => simp [intOf]; omega
        · go_wp2
          go_ret2
          exact ⟨hb, .inr ⟨fun h => hin (h k hlt HB.out), rfl⟩⟩
    · have hk32 : k = 32 := by omega
      subst hk32
      go_wp2
      go_ret2
      exact ⟨hb, .inl ⟨HF.out, g, c, rfl, hown⟩⟩
end Go.Proofs.YtgnkmenjjmfcfaaDoor
