/-
  Walk of the law TimerPlays.
-/
import Derived.Test.YtahdaodikpblnaaDoorTrLooks
import Derived.Test.YtahdaodikpblnaaDoorOp3Open
namespace Go.Proofs.YtahdaodikpblnaaDoor.timerPlays
open Go.RowKit
set_option linter.unusedVariables false
set_option linter.unusedSimpArgs false

set_option maxRecDepth 100000 in
set_option maxHeartbeats 4000000 in
theorem law (a : Option Addr) (len cap : Nat) (l : List Tm) (a' : Option Addr) (len' cap' : Nat) (C : List Op3) (w : World) {E : Nat → Addr} (he : Errs w E) (hs : Tms w a len cap l) (ok : ∀ t ∈ l, t.Ok) (hm : len ≤ 8796093021952) (hs' : Rcs Op3.cells 3 w a' len' cap' C) (ok' : ∀ o ∈ C, o.Ok) (hm' : len' ≤ 5864062014805) :
    Calls Tryd.prog 3 #[.slice a len cap, .slice a' len' cap'] w fun e w' => e = .returned (.bool true) ∧ Below w.heap.size w w' := by
  have HS := hide hs
  have HS' := hide hs'
  have hl' := hs'.size
  have HE := hide he
  have HLEN := hide hs.size
  clear hs hs' he ok ok'
  go_enter Tryd.func3, Tryd.ntmps3
  go_wp2_with fail
  refine Calls.mono (known_any HE.out.er3) ?_
  rintro e w1 ⟨rfl, b1⟩
  have X1 := hide b1
  have HS := hide (HS.out.below b1)
  clear b1
  go_wp2_with fail
  refine Calls.mono (copied_any w1 a len cap l HS.out (by omega)) ?_
  rintro e w2 ⟨x2, rfl, h2, b2⟩
  obtain ⟨a2, c2, rfl, t2⟩ := town_tms h2
  have T2 := hide t2
  have X2 := hide (chain X1.out b2)
  clear h2 b2 t2
  go_wp2
  go_loopw [0, 5] (fun o i wr => ∃ (k : Nat) (ax : Option Addr) (lx cx : Nat) (M : List Tm), k ≤ len' ∧ i = .int .i64 (k : Int) ∧ o = .slice ax lx cx ∧ lx ≤ 8796093021952 ∧ Hid (Tms wr ax lx cx M) ∧ Hid (Below w.heap.size w wr)) (fun _ i _ => len' - (intOf i).toNat)
  case atStart => exact ⟨0, a2, _, c2, l, by omega, rfl, rfl, by rw [HLEN.out]; exact hm, T2.out, X2.out⟩
  case round =>
    obtain ⟨k, ax, lx, cx, M, hk, rfl, rfl, hlx, hM, hb⟩ := hrel
    by_cases hlt : k < len'
    · obtain ⟨o, ho⟩ : ∃ p, C[k]? = some p := ⟨_, List.getElem?_eq_getElem (by rw [hl']; exact hlt)⟩
      obtain ⟨b, off, rfl, hr⟩ := (HS'.out.below hb.out).at op3 (by decide) ho
      have r0 := hr 0 _ rfl
      have r1 := hr 1 _ rfl
      have r2 := hr 2 _ rfl
      simp only [Nat.add_zero] at r0
      have hkk : (k : Int) < (len' : Int) := by omega
      clear hr ho
      go_wp2_with fail
      refine Calls.mono (plays_any (HE.out.below hb.out) ax lx cx M hM.out o.kd o.pr o.n hlx) ?_
      rintro e w3 ⟨a3, l3, c3, M3, rfl, t3, h3, b3⟩
      have T3 := hide t3
      have X3 := hide (chain hb.out b3)
      clear t3 b3 r0 r1 r2
      go_wp2
      go_roundw
      case rel => exact ⟨k + 1, a3, l3, c3, M3, by omega, by go_num, rfl, h3, T3.out, X3.out⟩
      case measure => simp [intOf]; omega
    · obtain rfl : k = len' := by omega
      go_wp2
      go_ret
      exact ⟨rfl, hb.out⟩
end Go.Proofs.YtahdaodikpblnaaDoor.timerPlays
