/-
  The cursor of package wire: U8, U16, U32, Raw, Text, Record.
-/
import Derived.Test.YtohoncgkekiihaaDoorCuRead
import Derived.Test.YtohoncgkekiihaaDoorWrCopy
namespace Go.Proofs.YtohoncgkekiihaaDoor
open Go.RowKit FerryCrc
set_option linter.unusedVariables false
set_option linter.unusedSimpArgs false

/-- What a call that reads n bytes as a number answers. -/
def Num (w : World) (E : Nat → Addr) (c g len p bd : Nat) (L : List Nat) (n : Nat) (e : Ending) (w' : World) : Prop :=
  (bd - p < n ∧ ∃ ev, e = .returned (.tuple #[.int .i64 0, ev]) ∧ AtErr w' w.heap.size ev (E 1) (p : Int) ∧ Below w.heap.size w w') ∨
  (n ≤ bd - p ∧ e = .returned (.tuple #[.int .i64 ((nbe (cut L p n) : Nat) : Int), .nilIface]) ∧ Cur w' c g len (p + n) bd L ∧ Frm (fun k => k = c) w w')

set_option maxRecDepth 100000 in
set_option maxHeartbeats 400000 in
theorem cnumber_any {E : Nat → Addr} (c g len p bd : Nat) (L : List Nat) (n : Nat) (w : World) (h : Cur w c g len p bd L) (he : E3 w E) (hn : n = 1 ∨ n = 2 ∨ n = 4) :
    Calls Tryd.prog 80 #[.pointer (some ⟨c, 0, none⟩), .int .i64 (n : Int)] w fun e w' => Num w E c g len p bd L n e w' := by
  have hl := cut_lt h.bts.small p n
  by_cases hs : bd - p < n
  · have HC := hide (fun hi => ranged_short c g len p bd L n 0 hi (E 1) w h he.v1 hn hs)
    clear h he
    rcases hn with rfl | rfl | rfl
    all_goals
      go_enter Tryd.func80, Tryd.ntmps80
      go_wp2_with fail
      refine Calls.mono (HC.out _) ?_
      rintro e w1 ⟨ev, rfl, ha, hb⟩
      have HA := hide ha
      have HB := hide hb
      clear ha hb
      go_wp2
      go_ret2
      exact .inl ⟨hs, ev, rfl, HA.out, HB.out⟩
  · have HC := hide (fun (hi : Int) (hh : (nbe (cut L p n) : Int) ≤ hi) => ranged_ok c g len p bd L n 0 hi w h hn (by omega) (by omega) hh)
    clear h he
    rcases hn with rfl | rfl | rfl
    all_goals
      go_enter Tryd.func80, Tryd.ntmps80
      go_wp2_with fail
      refine Calls.mono (HC.out _ (by omega)) ?_
      rintro e w1 ⟨rfl, q1, q2⟩
      have H1 := hide q1
      have H2 := hide q2
      clear q1 q2
      go_wp2
      go_ret2
      exact .inr ⟨by omega, rfl, H1.out, H2.out⟩

set_option maxRecDepth 100000 in
theorem cU8_any {E : Nat → Addr} (c g len p bd : Nat) (L : List Nat) (w : World) (h : Cur w c g len p bd L) (he : E3 w E) :
    Calls Tryd.prog 42 #[.pointer (some ⟨c, 0, none⟩)] w fun e w' => Num w E c g len p bd L 1 e w' := by
  have HC := hide (cnumber_any c g len p bd L 1 w h he (by decide))
  clear h he
  go_enter Tryd.func42, Tryd.ntmps42
  go_wp2_with fail
  refine Calls.mono HC.out ?_
  rintro e w1 (⟨hs, ev, rfl, ha, hb⟩ | ⟨hs, rfl, q1, q2⟩)
  · have HA := hide ha
    have HB := hide hb
    clear ha hb
    go_wp2
    go_ret2
    exact .inl ⟨hs, ev, rfl, HA.out, HB.out⟩
  · have H1 := hide q1
    have H2 := hide q2
    clear q1 q2
    go_wp2
    go_ret2
    exact .inr ⟨hs, rfl, H1.out, H2.out⟩

set_option maxRecDepth 100000 in
theorem cU16_any {E : Nat → Addr} (c g len p bd : Nat) (L : List Nat) (w : World) (h : Cur w c g len p bd L) (he : E3 w E) :
    Calls Tryd.prog 71 #[.pointer (some ⟨c, 0, none⟩)] w fun e w' => Num w E c g len p bd L 2 e w' := by
  have HC := hide (cnumber_any c g len p bd L 2 w h he (by decide))
  clear h he
  go_enter Tryd.func71, Tryd.ntmps71
  go_wp2_with fail
  refine Calls.mono HC.out ?_
  rintro e w1 (⟨hs, ev, rfl, ha, hb⟩ | ⟨hs, rfl, q1, q2⟩)
  · have HA := hide ha
    have HB := hide hb
    clear ha hb
    go_wp2
    go_ret2
    exact .inl ⟨hs, ev, rfl, HA.out, HB.out⟩
  · have H1 := hide q1
    have H2 := hide q2
    clear q1 q2
    go_wp2
    go_ret2
    exact .inr ⟨hs, rfl, H1.out, H2.out⟩

set_option maxRecDepth 100000 in
theorem cU32_any {E : Nat → Addr} (c g len p bd : Nat) (L : List Nat) (w : World) (h : Cur w c g len p bd L) (he : E3 w E) :
    Calls Tryd.prog 72 #[.pointer (some ⟨c, 0, none⟩)] w fun e w' => Num w E c g len p bd L 4 e w' := by
  have HC := hide (cnumber_any c g len p bd L 4 w h he (by decide))
  clear h he
  go_enter Tryd.func72, Tryd.ntmps72
  go_wp2_with fail
  refine Calls.mono HC.out ?_
  rintro e w1 (⟨hs, ev, rfl, ha, hb⟩ | ⟨hs, rfl, q1, q2⟩)
  · have HA := hide ha
    have HB := hide hb
    clear ha hb
    go_wp2
    go_ret2
    exact .inl ⟨hs, ev, rfl, HA.out, HB.out⟩
  · have H1 := hide q1
    have H2 := hide q2
    clear q1 q2
    go_wp2
    go_ret2
    exact .inr ⟨hs, rfl, H1.out, H2.out⟩
end Go.Proofs.YtohoncgkekiihaaDoor
