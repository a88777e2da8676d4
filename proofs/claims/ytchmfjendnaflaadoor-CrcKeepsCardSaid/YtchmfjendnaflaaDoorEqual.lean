/-
  Walk of the document's Equal.
-/
import Derived.Test.YtchmfjendnaflaaDoorLow
import Derived.BigRegion
namespace Go.Proofs.YtchmfjendnaflaaDoor
open Go.RowKit FerryCrc

theorem take_next {l : List Nat} {k x : Nat} (h : l[k]? = some x) : l.take (k + 1) = l.take k ++ [x] := by
  rw [List.take_add_one, h]
  rfl

set_option maxRecDepth 100000 in
theorem equal_any (a b : Option Addr) (n ca m cb : Nat) (l r : List Nat) (w : World) (ha : Bts w a n ca l) (hb : Bts w b m cb r) :
    Calls Tryd.prog 15 #[.slice a n ca, .slice b m cb] w fun e w' => e = .returned (.bool (decide (l = r))) ∧ Below w.heap.size w w' := by
  have hn := ha.most
  have hm := hb.most
  by_cases hnm : n = m
  · subst hnm
    go_enter Tryd.func15, Tryd.ntmps15
    go_wp2
    go_loopw [5] (fun i wr => ∃ k : Nat, k ≤ n ∧ i = .int .i64 k ∧ Below w.heap.size w wr ∧ l.take k = r.take k) (fun i _ => n - (intOf i).toNat)
    case atStart => exact ⟨0, by omega, rfl, Below.refl _ _, rfl⟩
    case round =>
      obtain ⟨k, hk, rfl, hbw, heq⟩ := hrel
      have HQ := hide heq
      clear heq
      by_cases hlt : k < n
      · have ha2 := ha.below hbw
        have hb2 := hb.below hbw
        obtain ⟨b1, o1, rfl, x, hx, cx⟩ := ha2.cell k hlt
        obtain ⟨b2, o2, rfl, y, hy, cy⟩ := hb2.cell k hlt
        have HX := hide hx
        have HY := hide hy
        clear hx hy ha hb ha2 hb2
        by_cases hxy : x = y
        · subst hxy
          go_wp2
          go_region
          all_goals go_wp2
          all_goals go_roundw
          case rel => exact ⟨k + 1, by omega, by go_num, hbw.drew, by rw [take_next HX.out, take_next HY.out, HQ.out]⟩
          case measure => simp [intOf]; omega
        · have hne : ((x : Int) != (y : Int)) = true := by simp; omega
          go_wp2
          go_region
          all_goals go_wp2
          all_goals go_ret
          all_goals exact ⟨ret_bool (by rw [eq_comm, decide_eq_false_iff_not]; intro e; rw [e, HY.out] at HX; exact hxy (Option.some.inj HX.out).symm), hbw.drew⟩
      · have hk8 : k = n := by omega
        subst hk8
        have e1 := ha.size
        have e2 := hb.size
        have HE : Hid (l = r) := by
          have := HQ.out
          rw [List.take_of_length_le (by omega), List.take_of_length_le (by omega)] at this
          exact this
        clear e1 e2
        go_wp2
        go_ret
        exact ⟨ret_bool (by rw [HE.out]; simp), hbw⟩
  · have hne : ((n : Int) != (m : Int)) = true := by simp; omega
    have HN : Hid (¬ l = r) := fun e => hnm (by rw [← ha.size, ← hb.size, e])
    go_enter Tryd.func15, Tryd.ntmps15
    go_wp2
    go_ret
    exact ⟨ret_bool (by rw [eq_comm, decide_eq_false_iff_not]; exact HN.out), Below.refl _ _⟩
end Go.Proofs.YtchmfjendnaflaaDoor
