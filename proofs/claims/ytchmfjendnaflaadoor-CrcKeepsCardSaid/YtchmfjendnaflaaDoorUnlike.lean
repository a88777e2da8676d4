/-
  Contract of crc.unlike.
-/
import Derived.Test.YtchmfjendnaflaaDoorBase
import Derived.BigQuiet
namespace Go.Proofs.YtchmfjendnaflaaDoor
open Go.RowKit FerryCrc

set_option maxRecDepth 100000 in
set_option maxHeartbeats 1000000 in
theorem unlike_any (a b : Option Addr) (n ca cb : Nat) (l r : List Nat) (w : World) (ha : Bts w a n ca l) (hb : Bts w b n cb r) :
    Calls Tryd.prog 44 #[.slice a n ca, .slice b n cb] w fun e w' => Below w.heap.size w w' ∧
      (((∀ i, i < n → l[i]? = r[i]?) ∧ e = .returned (.tuple #[.int .i64 (n : Int), .int .i64 ((n : Int) - 1)])) ∨
       ∃ f t : Nat, f ≤ t ∧ t < n ∧ l[f]? ≠ r[f]? ∧ l[t]? ≠ r[t]? ∧ (∀ i, i < f → l[i]? = r[i]?) ∧ (∀ i, t < i → i < n → l[i]? = r[i]?) ∧ e = .returned (.tuple #[.int .i64 (f : Int), .int .i64 (t : Int)])) := by
  have hn := ha.most
  have HA := hide ha
  have HB := hide hb
  clear ha hb
  go_enter Tryd.func44, Tryd.ntmps44
  go_wp2
  go_loopw [6] (fun i wr => ∃ k : Nat, k ≤ n ∧ i = .int .i64 k ∧ Below w.heap.size w wr ∧ ∀ j, j < k → l[j]? = r[j]?) (fun i _ => n - (intOf i).toNat)
  case atStart => exact ⟨0, by omega, rfl, Below.refl _ _, fun j hj => by omega⟩
  case round =>
    obtain ⟨k, hk, rfl, hbw, heq⟩ := hrel
    have HBW := hide hbw
    have HQ := hide heq
    clear hbw heq
    by_cases hlt : k < n
    · have d1 : decide ((k : Int) ≤ (n : Int) - 1) = true := by simp; omega
      obtain ⟨b1, o1, rfl, x, hx, cx⟩ := (HA.out.below HBW.out).cell k hlt
      obtain ⟨b2, o2, rfl, y, hy, cy⟩ := (HB.out.below HBW.out).cell k hlt
      have HX := hide hx
      have HY := hide hy
      clear hx hy
      by_cases hxy : x = y
      · subst hxy
        go_wp2
        go_quiet (fail)
        go_wp2
        go_roundw
        case rel => exact ⟨k + 1, by omega, by go_num, below_drewN HBW.out _, fun j hj => (Nat.lt_or_eq_of_le (Nat.le_of_lt_succ hj)).elim (HQ.out j) (fun e => by rw [e, HX.out, HY.out])⟩
        case measure => simp [intOf]; omega
      · have d2 : ((x : Int) == (y : Int)) = false := by simp; omega
        have HD : Hid (l[k]? ≠ r[k]?) := by unfold Hid; rw [HX.out, HY.out]; simpa using hxy
        go_wp2
        go_quiet (fail)
        go_wp2
        have HW := hide (below_drewN HBW.out nq)
        clear cx cy
        generalize wr.drewN nq = w2 at *
        go_loopw [7] (fun i wr => ∃ m : Nat, k ≤ m ∧ m < n ∧ i = .int .i64 m ∧ Below w.heap.size w wr ∧ ∀ j, m < j → j < n → l[j]? = r[j]?) (fun i _ => (intOf i).toNat)
        case atStart => exact ⟨n - 1, by omega, by omega, by go_num, HW.out, fun j hj hj2 => by omega⟩
        case round =>
          obtain ⟨m, hkm, hmn, rfl, hbv, heq⟩ := hrel
          have HBV := hide hbv
          have HQ2 := hide heq
          clear hbv heq
          by_cases hkm2 : k < m
          · have d3 : decide ((k : Int) < (m : Int)) = true := by simp; omega
            obtain ⟨b3, o3, e3, u, hu, cu⟩ := (HA.out.below HBV.out).cell m hmn
            simp only [Option.some.injEq, Addr.mk.injEq, and_true] at e3
            obtain ⟨rfl, rfl⟩ := e3
            obtain ⟨b4, o4, e4, v, hv, cv⟩ := (HB.out.below HBV.out).cell m hmn
            simp only [Option.some.injEq, Addr.mk.injEq, and_true] at e4
            obtain ⟨rfl, rfl⟩ := e4
            have HU := hide hu
            have HV := hide hv
            clear hu hv
            by_cases huv : u = v
            · subst huv
              go_wp2
              go_quiet (fail)
              go_wp2
              go_roundw
              case rel => exact ⟨m - 1, by omega, by omega, by go_num, below_drewN HBV.out _, fun j hj hj2 => (Nat.lt_or_eq_of_le (show m ≤ j by omega)).elim (fun h => HQ2.out j h hj2) (fun e => by rw [← e, HU.out, HV.out])⟩
              case measure => simp [intOf]; omega
            · have d4 : ((u : Int) == (v : Int)) = false := by simp; omega
              have HD2 : Hid (l[m]? ≠ r[m]?) := by unfold Hid; rw [HU.out, HV.out]; simpa using huv
              go_wp2
              go_quiet (fail)
              go_wp2
              go_ret2
              exact ⟨below_drewN HBV.out _, .inr ⟨k, m, hkm, hmn, HD.out, HD2.out, HQ.out, HQ2.out, rfl⟩⟩
          · obtain rfl : m = k := by omega
            go_wp2
            go_quiet (fail)
            go_wp2
            go_ret2
            exact ⟨below_drewN HBV.out _, .inr ⟨m, m, hkm, hmn, HD.out, HD.out, HQ.out, HQ2.out, rfl⟩⟩
    · have d1 : decide ((k : Int) ≤ (n : Int) - 1) = false := by simp; omega
      go_wp2
      go_quiet (fail)
      go_wp2
      obtain rfl : k = n := by omega
      have HW := hide (below_drewN HBW.out nq)
      generalize wr.drewN nq = w2 at *
      have d3 : decide ((k : Int) < (k : Int) - 1) = false := by simp; omega
      go_loopw [7] (fun i wr => i = .int .i64 ((k : Int) - 1) ∧ Below w.heap.size w wr) (fun i _ => 0)
      case atStart => exact ⟨rfl, HW.out⟩
      case round =>
        obtain ⟨rfl, hbv⟩ := hrel
        have HBV := hide hbv
        clear hbv
        go_wp2
        go_quiet (fail)
        go_wp2
        go_ret2
        exact ⟨below_drewN HBV.out _, .inl ⟨HQ.out, rfl⟩⟩
end Go.Proofs.YtchmfjendnaflaaDoor
