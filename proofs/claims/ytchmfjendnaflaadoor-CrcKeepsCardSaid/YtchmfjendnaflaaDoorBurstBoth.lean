/-
  crc.Burst beside the document's: the same answer, whatever the two lists.
-/
import Derived.Test.YtchmfjendnaflaaDoorBurstAny
import Derived.Test.YtchmfjendnaflaaDoorRefBurst
import Derived.Test.YtchmfjendnaflaaDoorPlain
namespace Go.Proofs.YtchmfjendnaflaaDoor
open Go.RowKit FerryCrc

set_option maxRecDepth 100000 in
theorem refBurst_len (a b : Option Addr) (n m ca cb : Nat) (w : World) (hn : n ≠ m) :
    Calls Tryd.prog 24 #[.slice a n ca, .slice b m cb] w fun e w' => e = .returned (.tuple #[.int .i64 0, .int .u32 0, .int .i64 5]) ∧ w = w' := by
  have hnn : ((n : Int) != (m : Int)) = true := by simp; omega
  go_enter Tryd.func24, Tryd.ntmps24
  go_wp2
  go_ret3
  exact ⟨rfl, rfl⟩

set_option maxRecDepth 100000 in
theorem burst_len (a b : Option Addr) (n m ca cb : Nat) (a5 : Addr) (w : World) (h5 : w.cell? ⟨3, 0, none⟩ = some (sent a5)) (hn : n ≠ m) :
    Calls Tryd.prog 25 #[.slice a n ca, .slice b m cb] w fun e w' => e = .returned (.tuple #[.int .i64 0, .int .u32 0, sent a5]) ∧ Below w.heap.size w w' := by
  have hnn : ((n : Int) != (m : Int)) = true := by simp; omega
  go_enter Tryd.func25, Tryd.ntmps25
  go_wp2
  go_region
  all_goals go_wp2
  all_goals (go_ret3; exact ⟨rfl, (Below.refl _ _).drew⟩)

set_option maxRecDepth 100000 in
theorem burst_none (a b : Option Addr) (n ca cb : Nat) (l : List Nat) (a17 : Addr) (w : World) (h17 : w.cell? ⟨4, 0, none⟩ = some (sent a17)) (ha : Bts w a n ca l) (hb : Bts w b n cb l) :
    Calls Tryd.prog 25 #[.slice a n ca, .slice b n cb] w fun e w' => e = .returned (.tuple #[.int .i64 0, .int .u32 0, sent a17]) ∧ Below w.heap.size w w' := by
  have hnn : ((n : Int) != (n : Int)) = false := by simp
  have hm := ha.most
  have HU := hide (unlike_any a b n ca cb l l w ha hb)
  have H17 := hide h17
  clear ha hb h17
  have g1 : decide ((n : Int) - 1 < (n : Int)) = true := by simp; omega
  go_enter Tryd.func25, Tryd.ntmps25
  go_wp2_with fail
  refine HU.out.mono ?_
  rintro e w1 ⟨hb1, ⟨_, rfl⟩ | ⟨f, t, _, _, h3, _⟩⟩
  case inr => exact absurd rfl h3
  have h17 := cell_over3 H17.out hb1
  have HB1 := hide hb1
  clear hb1
  go_wp2
  go_region
  all_goals go_wp2
  all_goals (go_ret3; exact ⟨rfl, HB1.out.drew⟩)

theorem low_uniq {D p q : Nat} (h1 : D.testBit p = true) (h2 : ∀ i, i < p → D.testBit i = false) (h3 : D.testBit q = true) (h4 : ∀ i, i < q → D.testBit i = false) : p = q := by
  rcases Nat.lt_trichotomy p q with h | h | h
  · rw [h4 p h] at h1; simp at h1
  · exact h
  · rw [h2 q h] at h3; simp at h3

theorem burst_both {w : World} {E : Nat → Addr} (he : Errs w E) {a b : Option Addr} {n m ca cb : Nat} {l r : List Nat} (ha : Bts w a n ca l) (hb : Bts w b m cb r) :
    ∃ (P M c : Nat) (v : Value), Bare E v c ∧ M < 4294967296 ∧
      (Calls Tryd.prog 24 #[.slice a n ca, .slice b m cb] w fun e w' => e = .returned (.tuple #[.int .i64 (P : Int), .int .u32 (M : Int), .int .i64 (c : Int)]) ∧ w = w') ∧
      ∀ wx, Below w.heap.size w wx → Calls Tryd.prog 25 #[.slice a n ca, .slice b m cb] wx fun e w' => e = .returned (.tuple #[.int .i64 (P : Int), .int .u32 (M : Int), v]) ∧ Below wx.heap.size wx w' := by
  by_cases hn : n = m
  · subst hn
    by_cases hlr : l = r
    · subst hlr
      refine ⟨0, 0, 17, sent (E 17), bare_sent E 17 (by decide) (by decide), by decide, ?_, fun wx hx => burst_none a b n ca cb l (E 17) wx (he.below hx).v17 (ha.below hx) (hb.below hx)⟩
      refine (refBurst_any a b n ca cb l l w ha hb).mono ?_
      rintro e w' ⟨hw, ⟨_, rfl⟩ | ⟨p, hp, _⟩⟩
      · exact ⟨rfl, hw⟩
      · rw [Nat.xor_self] at hp
        simp at hp
    · obtain ⟨f, t, mk⟩ := marks_of ha.size hb.size hlr
      have lo := mk.low ha.size hb.size ha.small hb.small
      generalize 8 * f + low8 (dif l r f) = q at lo
      have hne : num l ^^^ num r ≠ 0 := by
        intro e
        rw [e] at lo
        simp at lo
      by_cases hbig : 32 < lenOf (num l ^^^ num r) - q
      · refine ⟨0, 0, 4, sent (E 4), bare_sent E 4 (by decide) (by decide), by decide, ?_, fun wx hx => ?_⟩
        · refine (refBurst_any a b n ca cb l r w ha hb).mono ?_
          rintro e w' ⟨hw, ⟨h0, _⟩ | ⟨p, h1, h2, ⟨_, rfl⟩ | ⟨h3, _⟩⟩⟩
          · exact absurd h0 hne
          · exact ⟨rfl, hw⟩
          · rw [low_uniq h1 h2 lo.1 lo.2] at h3
            omega
        · refine (burst_any (E 4) wx (he.below hx).v4 (ha.below hx) (hb.below hx) hlr).mono ?_
          rintro e w' ⟨hw, p, h1, h2, ⟨_, rfl⟩ | ⟨h3, _⟩⟩
          · exact ⟨rfl, hw⟩
          · rw [low_uniq h1 h2 lo.1 lo.2] at h3
            omega
      · refine ⟨q, (num l ^^^ num r) / 2 ^ q % 4294967296, 0, .nilIface, bare_nil E, Nat.mod_lt _ (by decide), ?_, fun wx hx => ?_⟩
        · refine (refBurst_any a b n ca cb l r w ha hb).mono ?_
          rintro e w' ⟨hw, ⟨h0, _⟩ | ⟨p, h1, h2, ⟨h3, _⟩ | ⟨_, rfl⟩⟩⟩
          · exact absurd h0 hne
          · rw [low_uniq h1 h2 lo.1 lo.2] at h3
            omega
          · rw [low_uniq h1 h2 lo.1 lo.2]
            exact ⟨rfl, hw⟩
        · refine (burst_any (E 4) wx (he.below hx).v4 (ha.below hx) (hb.below hx) hlr).mono ?_
          rintro e w' ⟨hw, p, h1, h2, ⟨h3, _⟩ | ⟨_, rfl⟩⟩
          · rw [low_uniq h1 h2 lo.1 lo.2] at h3
            omega
          · rw [low_uniq h1 h2 lo.1 lo.2]
            exact ⟨rfl, hw⟩
  · exact ⟨0, 0, 5, sent (E 5), bare_sent E 5 (by decide) (by decide), by decide, refBurst_len a b n m ca cb w hn, fun wx hx => burst_len a b n m ca cb (E 5) wx (he.below hx).v5 hn⟩
end Go.Proofs.YtchmfjendnaflaaDoor
