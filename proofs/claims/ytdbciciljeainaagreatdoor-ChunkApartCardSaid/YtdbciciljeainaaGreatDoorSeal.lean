/-
  Walks of the program's Seal and Open.
-/
import Derived.Test.YtdbciciljeainaaGreatDoorCrc
import Derived.Test.YtdbciciljeainaaGreatDoorLow
import Derived.Test.YtdbciciljeainaaGreatDoorErrIs
import Derived.BigRegion
import Derived.Deep.RegionWith
namespace FerryCrc
def sealOf (l : List Nat) : List Nat := l ++ le4 (sumOf l)
theorem sealOf_length (l : List Nat) : (sealOf l).length = l.length + 4 := by simp [sealOf, le4]
theorem sumOf_lt {l : List Nat} (h : ∀ c ∈ l, c < 256) : sumOf l < 4294967296 := xor_lt32 (mvs_lt (by decide) h) (by decide)
theorem sealOf_small {l : List Nat} (h : ∀ c ∈ l, c < 256) : ∀ c ∈ sealOf l, c < 256 := by
  intro c hc
  rcases List.mem_append.1 hc with hc | hc
  · exact h c hc
  · exact le4_small _ c hc
end FerryCrc
namespace Go.Proofs.YtdbciciljeainaaGreatDoor
open Go.RowKit FerryCrc

set_option maxRecDepth 100000 in
theorem seal_any (a : Option Addr) (len cap : Nat) (l : List Nat) (w : World) (hs : Bts w a len cap l) (hr : len ≤ 140737488355320) :
    Calls Tryz.prog 46 #[.slice a len cap] w fun e w' => ∃ g, e = .returned (.slice (some ⟨g, 0, none⟩) (len + 4) (len + 4)) ∧ Own w' w.heap.size (.slice (some ⟨g, 0, none⟩) (len + 4) (len + 4)) (sealOf l) ∧ Below w.heap.size w w' := by
  have hm := hs.most
  have HS := hide hs
  clear hs
  go_enter Tryz.func46, Tryz.ntmps46
  go_wp2_with (first | (at_make; refine make_bts rfl (.tmp 6) (.tmp 6) rfl _ _ (len + 4) rfl rfl (by omega) (by omega) (by omega) ?_; intro w1 hown1 hb1) | (refine copy_bts rfl (.tmp 8) (.tmp 9) rfl w.heap.size w.heap.size (len + 4) (len + 4) _ rfl hown1 (by simp) a len cap l rfl (HS.out.below hb1) (by omega) ?_; intro w2 hown2 hb2))
  have hs2 := HS.out.below (hb1.trans hb2)
  have HC := hide (fun wx (hx : Bts wx a len cap l) => sum_any a len cap l wx hx)
  have e4 : l ++ (List.replicate (len + 4) 0).drop len = l ++ ([0, 0, 0, 0] ++ []) := by
    rw [List.drop_replicate, show len + 4 - len = 4 by omega]
    rfl
  rw [e4] at hown2
  have HL : Hid ((l ++ ([0, 0, 0, 0] ++ [])).length = len + 4) := by unfold Hid; simp [HS.out.size]
  have HF : Hid (lowTo (l ++ ([0, 0, 0, 0] ++ [])) len (sumOf l) 4 = sealOf l) := by
    unfold Hid
    have := lowTo_four l [] 0 0 0 0 (sumOf l)
    rw [HS.out.size] at this
    rw [this]
    simp [sealOf]
  have HO := hide hown2
  clear e4 hown2
  generalize l ++ ([0, 0, 0, 0] ++ []) = L at *
  go_region_with (first | (go_at_call 67; refine (HC.out _ ?_).mono ?_; (repeat (first | exact hs2 | apply Bts.drew)); rintro e w3 ⟨rfl, hb3⟩) | (go_at_call 66; refine (putLow_any w.heap.size w.heap.size (len + 4) (len + 4) len 4 (sumOf l) L _ (HO.out.drew.below hb3) HL.out (by omega)).mono ?_; rintro e w4 ⟨rfl, hown4, hb4⟩))
  all_goals go_wp2
  all_goals (go_ret; exact ⟨w.heap.size, rfl, by rw [← HF.out]; exact hown4, ((hb1.trans hb2).trans ((Below.refl _ _).drew.trans (hb3.mono (by have := (hb1.trans hb2).size; simpa using this)))).trans hb4⟩)

set_option maxRecDepth 100000 in
theorem open_short (a : Option Addr) (len cap : Nat) (a1 : Addr) (w : World) (h1 : w.cell? ⟨4, 0, none⟩ = some (sent a1)) (hl : len < 4) :
    Calls Tryz.prog 47 #[.slice a len cap] w fun e w' => e = .returned (.tuple #[.slice none 0 0, sent a1]) ∧ Below w.heap.size w w' := by
  go_enter Tryz.func47, Tryz.ntmps47
  go_wp2
  go_region
  all_goals go_wp2
  all_goals (go_ret2; exact ⟨rfl, (Below.refl _ _).drew⟩)

theorem Own.weaken {w : World} {base base' : Nat} {v : Value} {L : List Nat} (h : Own w base v L) (hb : base' ≤ base) : Own w base' v L := by
  refine ⟨h.1, ?_⟩
  rcases h.2 with e | ⟨g, cap, cur, e, hg, r⟩
  · exact .inl e
  · exact .inr ⟨g, cap, cur, e, Nat.le_trans hb hg, r⟩
theorem cell_over {w w' : World} {a : Addr} {v : Value} (h : w.cell? a = some v) (hb : Below w.drew.heap.size w.drew w') : w'.cell? a = some v := by
  rw [hb.cell (p := a) (block_lt_of_cell h)]
  exact h

/-- The last four bytes are the sum of the others. -/
def Good (l : List Nat) : Prop := sumOf (l.take (l.length - 4)) = num4 (l.drop (l.length - 4))

set_option maxRecDepth 100000 in
set_option maxHeartbeats 1000000 in
theorem open_any (a : Option Addr) (len cap : Nat) (l : List Nat) (a6 : Addr) (w : World) (h6 : w.cell? ⟨11, 0, none⟩ = some (sent a6)) (hs : Bts w a len cap l) (hl : 4 ≤ len) :
    Calls Tryz.prog 47 #[.slice a len cap] w fun e w' => Below w.heap.size w w' ∧
      ((Good l ∧ ∃ g, e = .returned (.tuple #[.slice (some ⟨g, 0, none⟩) (len - 4) (len - 4), .nilIface]) ∧ Own w' w.heap.size (.slice (some ⟨g, 0, none⟩) (len - 4) (len - 4)) (l.take (len - 4))) ∨
       (¬ Good l ∧ e = .returned (.tuple #[.slice none 0 0, sent a6]))) := by
  have hm := hs.most
  have hfit := hs.fit
  obtain ⟨b, off, rfl, _⟩ := hs.cell 0 (by omega)
  have hA := hs.take (len - 4) (by omega)
  have hB := hs.drop (len - 4) (by omega)
  rw [show len - (len - 4) = 4 by omega] at hB
  have HG : Hid (Good l ↔ sumOf (l.take (len - 4)) = num4 (l.drop (len - 4))) := by unfold Hid Good; rw [hs.size]
  have H1 := hide (fun wx (hx : Bts wx (some ⟨b, off, none⟩) (len - 4) cap (l.take (len - 4))) => sum_any (some ⟨b, off, none⟩) (len - 4) cap (l.take (len - 4)) wx hx)
  have H2 := hide (fun wx (hx : Bts wx (some ⟨b, off + (len - 4), none⟩) 4 (cap - (len - 4)) (l.drop (len - 4))) => getLow_any (some ⟨b, off + (len - 4), none⟩) (cap - (len - 4)) (l.drop (len - 4)) wx hx)
  have H3 := hide (fun wx (hx : Bts wx (some ⟨b, off, none⟩) (len - 4) cap (l.take (len - 4))) => fresh_any (some ⟨b, off, none⟩) (len - 4) cap (l.take (len - 4)) wx hx)
  generalize l.take (len - 4) = la at *
  generalize l.drop (len - 4) = lb at *
  clear hs
  generalize hn : len - 4 = n at *
  obtain rfl : len = n + 4 := by omega
  clear hn hl
  have HA := hide hA
  have HB := hide hB
  have H6 := hide h6
  by_cases hg : sumOf la = num4 lb
  · have hgi : ((sumOf la : Int) != (num4 lb : Int)) = false := by simp [hg]
    go_enter Tryz.func47, Tryz.ntmps47
    go_wp2
    go_region_with (first | (go_at_call 67; refine (H1.out _ ?_).mono ?_; (repeat (first | exact HA.out | apply Bts.drew)); rintro e w3 ⟨rfl, hb3⟩) | (go_at_call 68; refine (H2.out _ ?_).mono ?_; (first | exact HB.out.drew.below hb3 | exact HB.out.drew | exact HB.out); rintro e w4 ⟨rfl, rfl⟩))
    all_goals (go_wp2_with (go_at_call 69; refine (H3.out _ (HA.out.drew.below hb3)).mono ?_; rintro e w5 ⟨g, rfl, hown, hb5⟩))
    all_goals (go_ret2; exact ⟨chain ((Below.refl _ _).drew.trans hb3) hb5, .inl ⟨HG.out.2 hg, g, rfl, hown.weaken hb3.size⟩⟩)
  · have hgi : ((sumOf la : Int) != (num4 lb : Int)) = true := by simp; omega
    have hv := H6.out
    go_enter Tryz.func47, Tryz.ntmps47
    go_wp2
    go_region_with (first | (go_at_call 67; refine (H1.out _ ?_).mono ?_; (repeat (first | exact HA.out | apply Bts.drew)); rintro e w3 ⟨rfl, hb3⟩; have hv3 := cell_over H6.out hb3) | (go_at_call 68; refine (H2.out _ ?_).mono ?_; (first | exact HB.out.drew.below hb3 | exact HB.out.drew | exact HB.out); rintro e w4 ⟨rfl, rfl⟩))
    all_goals go_wp2
    all_goals go_region
    all_goals go_wp2
    all_goals (go_ret2; exact ⟨((Below.refl _ _).drew.trans hb3).drew, .inr ⟨fun h => hg (HG.out.1 h), rfl⟩⟩)
end Go.Proofs.YtdbciciljeainaaGreatDoor
