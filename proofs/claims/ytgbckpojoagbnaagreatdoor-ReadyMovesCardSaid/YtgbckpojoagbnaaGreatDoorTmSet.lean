/-
  timer's Set.
-/
import Derived.Test.YtgbckpojoagbnaaGreatDoorTmFns
import Derived.Test.YtgbckpojoagbnaaGreatDoorTmSort

namespace Go.Proofs.YtgbckpojoagbnaaGreatDoor
open Classical
open Go.RowKit
set_option linter.unusedVariables false
set_option linter.unusedSimpArgs false

set_option maxRecDepth 100000 in
set_option maxHeartbeats 4000000 in
theorem tset_any {w : World} {E : Nat → Addr} (he : Er3 w E) (a : Option Addr) (len cap : Nat) (l : List Tm) (hs : Tms w a len cap l) (p d : Int) (hm : len ≤ 9223372036854775807) :
    Calls Tryz.prog 35 #[.slice a len cap, .int .i64 p, .int .i64 d] w fun e w' => ∃ x v, e = .returned (.tuple #[x, v]) ∧ Bare E v (setE l p d) ∧ TOwn w' w.heap.size x (setL l p d) ∧ Below w.heap.size w w' := by
  have HS := hide hs
  have hl := hs.size
  have HE := hide he
  have HD := hide (isDue_any d)
  have HI := hide infoTimer
  clear hs he
  go_enter Tryz.func35, Tryz.ntmps35
  go_wp2_with fail
  refine Calls.mono (inForm_any w a len cap l HS.out 8 (by omega) hm) ?_
  rintro e w1 ⟨rfl, b1⟩
  have B1 := hide b1
  clear b1
  by_cases hf : Form l 8
  case neg =>
    have d1 : decide (Form l 8) = false := decide_eq_false hf
    have HA : Hid (setE l p d = 9 ∧ setL l p d = []) := ⟨by unfold setE; rw [if_pos hf], by unfold setL; rw [if_neg (fun h => hf h.1)]⟩
    have v9 := (HE.out.below B1.out).v9
    rw [d1]
    clear hf d1
    go_wp2
    go_quiet (fail)
    go_wp2
    go_ret2
    exact ⟨_, _, rfl, by rw [HA.out.1]; exact bare_sent E 9 (by decide) (by decide), by rw [HA.out.2]; exact town_nil _ _, drewN_below B1.out nq⟩
  have d1 : decide (Form l 8) = true := decide_eq_true hf
  have h8 := hf.2.1.few hf.1
  rw [d1]
  by_cases hk : SetOk p d
  case neg =>
    have HA : Hid (setE l p d = 12 ∧ setL l p d = []) := ⟨by unfold setE; rw [if_neg (by simpa using hf), if_pos hk], by unfold setL; rw [if_neg (fun h => hk h.2)]⟩
    have v12 := (HE.out.below B1.out).v12
    clear hf d1
    by_cases h1 : p < 0
    · have e1 : decide (p < 0) = true := decide_eq_true h1
      clear h1 hk
      go_wp2
      go_quiet (fail)
      go_wp2
      go_ret2
      exact ⟨_, _, rfl, by rw [HA.out.1]; exact bare_sent E 12 (by decide) (by decide), by rw [HA.out.2]; exact town_nil _ _, drewN_below B1.out nq⟩
    have e1 : decide (p < 0) = false := decide_eq_false h1
    by_cases h2 : 8 ≤ p
    · have e2 : decide (8 ≤ p) = true := decide_eq_true h2
      clear h1 hk h2
      go_wp2
      go_quiet (fail)
      go_wp2
      go_ret2
      exact ⟨_, _, rfl, by rw [HA.out.1]; exact bare_sent E 12 (by decide) (by decide), by rw [HA.out.2]; exact town_nil _ _, drewN_below B1.out nq⟩
    have e2 : decide (8 ≤ p) = false := decide_eq_false h2
    have e3 : decide (0 ≤ d ∧ d ≤ 1010000) = false := decide_eq_false (fun h => hk ⟨by omega, by omega, h⟩)
    clear h1 hk h2
    go_wp2_with (refine Calls.mono (HD.out _) ?_; rintro e w' ⟨rfl, rfl⟩)
    go_quiet (fail)
    go_wp2
    go_ret2
    exact ⟨_, _, rfl, by rw [HA.out.1]; exact bare_sent E 12 (by decide) (by decide), by rw [HA.out.2]; exact town_nil _ _, drewN_below B1.out nq⟩
  have HA : Hid (setE l p d = 0 ∧ setL l p d = srt (others l p ++ [⟨p, d⟩])) := ⟨by unfold setE; rw [if_neg (by simpa using hf), if_neg (not_not_intro hk)], by unfold setL; rw [if_pos ⟨hf, hk⟩]⟩
  have e1 : decide (p < 0) = false := decide_eq_false (by have := hk.1; omega)
  have e2 : decide (8 ≤ p) = false := decide_eq_false (by have := hk.2.1; omega)
  have e3 : decide (0 ≤ d ∧ d ≤ 1010000) = true := decide_eq_true hk.2.2
  clear hf d1 hk
  go_wp2_with fail
  refine Calls.mono (HD.out _) ?_
  rintro e w' ⟨rfl, hw'⟩
  have hw' := hw'.symm
  subst hw'
  go_wp2_with fail
  refine Calls.mono (without_any w1 a len cap l (HS.out.below B1.out) p (by omega)) ?_
  rintro e w2 ⟨v2, rfl, h2, b2⟩
  have H2 := hide h2
  have B2 := hide (chain B1.out b2)
  have C2 := hide b2.size
  have HL := hide (others_len l p)
  clear h2 b2
  have BL := hide (new_below w2 (.cells #[.int .i64 p, .int .i64 d] 61))
  have O2 := hide (ownsRow_below H2.out BL.out)
  go_wp2_with (at_builtin; refine append_rec rfl (.tmp 27) (.tmp 31) 24 61 rfl Tryz.underlying24 HI.out (by decide) w1.heap.size _ _ _ rfl O2.out w2.heap.size 1 (Tm.cells ⟨p, d⟩) rfl rfl (fun i u hu => by rw [World.cell?_alloc_at _ _ _ _ rfl]; simpa [Tm.cells] using hu) (fun u hu => tm_one [⟨p, d⟩] u (by simpa using hu)) (by have := HL.out; unfold maxLen; omega) (by have := HL.out; omega) (Nat.le_trans C2.out BL.out.size) ?_; intro g7 c7 w7 ho7 hg7 hat7 hlt7)
  have D7 := hide ((B2.out.alloc B2.out.size _).grown hg7 (Nat.le_trans B2.out.size BL.out.size) (fun k' hk' => Nat.le_trans B1.out.size (O2.out.lt k' hk').1))
  have O7 : Hid (TOwn w7 w1.heap.size (.slice (some ⟨g7, 0, none⟩) ((others l p).length + 1) c7) (others l p ++ [⟨p, d⟩])) := by
    unfold Hid
    simpa [TOwn] using ho7
  clear ho7 hg7 hat7
  go_wp2_with fail
  refine Calls.mono (sortFunc_own O7.out (by have := HL.out; simp; omega)) ?_
  rintro e w8 ⟨rfl, h8', b8⟩
  have H8 := hide h8'
  have B8 := hide (D7.out.trans (b8.mono B1.out.size))
  clear h8' b8
  go_wp2
  go_ret2
  exact ⟨_, _, rfl, by rw [HA.out.1]; exact bare_nil E, by rw [HA.out.2]; exact ownsRow_weaken H8.out B1.out.size, B8.out⟩
end Go.Proofs.YtgbckpojoagbnaaGreatDoor
