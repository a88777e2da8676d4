/-
  The document's Good and Pick; its comparing of numbers.
-/
import Derived.Test.YtleeallnfmafnaaDoorRyRef
import Derived.BigQuiet
import Derived.Deep.RegionHeld3
namespace Go.Proofs.YtleeallnfmafnaaDoor
open Classical
open Go.RowKit
set_option linter.unusedVariables false
set_option linter.unusedSimpArgs false

set_option maxRecDepth 100000 in
set_option maxHeartbeats 4000000 in
theorem equalInts_any (w : World) (a : Option Addr) (len cap : Nat) (l : List Int) (hs : Is w a len cap l) (a' : Option Addr) (len' cap' : Nat) (m : List Int) (hs' : Is w a' len' cap' m) (hm : len ≤ 9223372036854775807) (hm' : len' ≤ 9223372036854775807) :
    Calls Tryd.prog 11 #[.slice a len cap, .slice a' len' cap'] w fun e w' => e = .returned (.bool (decide (l = m))) ∧ Below w.heap.size w w' := by
  have HS := hide hs
  have HS' := hide hs'
  have HL : Hid (l.length = len) := hs.size
  have HL' : Hid (m.length = len') := hs'.size
  clear hs hs'
  by_cases hlen : len = len'
  case neg =>
    have d1 : ((len : Int) != (len' : Int)) = true := by simp; omega
    have HR : Hid (decide (l = m) = false) := decide_eq_false (fun h => hlen (by rw [← HL.out, ← HL'.out, h]))
    clear hlen
    go_enter Tryd.func11, Tryd.ntmps11
    go_wp2
    go_ret
    exact ⟨by rw [HR.out]; rfl, Below.refl _ _⟩
  subst hlen
  go_enter Tryd.func11, Tryd.ntmps11
  go_wp2
  go_loopw [5] (fun i wr => ∃ k : Nat, k ≤ len ∧ i = .int .i64 (k : Int) ∧ Hid (∀ j, j < k → l[j]? = m[j]?) ∧ Hid (Below w.heap.size w wr)) (fun i _ => len - (intOf i).toNat)
  case atStart => exact ⟨0, by omega, rfl, fun j hj => by omega, Below.refl _ _⟩
  case round =>
    obtain ⟨k, hk, rfl, hall, hb⟩ := hrel
    by_cases hlt : k < len
    · obtain ⟨x, hx⟩ : ∃ p, l[k]? = some p := ⟨_, List.getElem?_eq_getElem (by rw [HL.out]; exact hlt)⟩
      obtain ⟨y, hy⟩ : ∃ p, m[k]? = some p := ⟨_, List.getElem?_eq_getElem (by rw [HL'.out]; exact hlt)⟩
      obtain ⟨b, off, rfl, hr⟩ := (HS.out.below hb.out).at ci1 (by decide) hx
      obtain ⟨b', off', rfl, hr'⟩ := (HS'.out.below hb.out).at ci1 (by decide) hy
      have q0 := hr 0 _ rfl
      have q1 := hr' 0 _ rfl
      simp only [Nat.add_zero, Nat.mul_one] at q0 q1
      have hk1 : (k : Int) < (len : Int) := by omega
      have HX := hide hx
      have HY := hide hy
      clear hr hr' hx hy
      by_cases hxy : x = y
      · have d1 : (x != y) = false := by simp [hxy]
        have HN : Hid (l[k]? = m[k]?) := by unfold Hid; rw [HX.out, HY.out, hxy]
        clear hxy
        go_wp2
        go_quiet (fail)
        go_wp2
        go_roundw
        case rel =>
          refine ⟨k + 1, by omega, by go_num, fun j hj => ?_, drewN_below hb.out nq⟩
          by_cases e : j = k
          · subst e
            exact HN.out
          · exact hall.out j (by omega)
        case measure => simp [intOf]; omega
      · have d1 : (x != y) = true := by simp [hxy]
        have HR : Hid (decide (l = m) = false) := decide_eq_false (fun h => hxy (by
          have h1 := HX.out
          rw [h, HY.out] at h1
          exact (Option.some.inj h1).symm))
        clear hxy
        go_wp2
        go_quiet (fail)
        go_wp2
        go_ret
        exact ⟨by rw [HR.out]; rfl, drewN_below hb.out nq⟩
    · obtain rfl : k = len := by omega
      have HR : Hid (decide (l = m) = true) := decide_eq_true (List.ext_getElem? fun j => by
        by_cases hj : j < k
        · exact hall.out j hj
        · rw [List.getElem?_eq_none (by rw [HL.out]; omega), List.getElem?_eq_none (by rw [HL'.out]; omega)])
      go_wp2
      go_ret
      exact ⟨by rw [HR.out]; rfl, hb.out⟩
end Go.Proofs.YtleeallnfmafnaaDoor
