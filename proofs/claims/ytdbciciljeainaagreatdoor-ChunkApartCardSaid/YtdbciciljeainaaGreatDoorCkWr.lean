/-
  The writer of package wire: numbers of one, two and four bytes, all that was put.
-/
import Derived.Test.YtdbciciljeainaaGreatDoorWrPut
namespace Go.Proofs.YtdbciciljeainaaGreatDoor
open Go.RowKit FerryCrc
set_option linter.unusedVariables false
set_option linter.unusedSimpArgs false

set_option maxRecDepth 100000 in
theorem wu8_any (b : Nat) (v : Value) (L : List Nat) (n : Nat) (w : World) (hw : Wr w b v .nilIface L) (hn : n < 256) (hl : L.length + 1 ≤ 140737488355328) :
    Calls Tryz.prog 42 #[.pointer (some ⟨b, 0, none⟩), .int .i64 (n : Int)] w fun e w' => e = .returned (.tuple #[]) ∧ ∃ v', Wr w' b v' .nilIface (L ++ [n]) ∧ Frm (WS b v) w w' ∧ NewB w v v' := by
  have HC := hide (wnumber_any b v L n 1 w hw (by decide) (by omega) hl)
  rw [be_one n hn] at HC
  clear hw
  go_enter Tryz.func42, Tryz.ntmps42
  go_wp2_with fail
  refine Calls.mono HC.out ?_
  rintro e w1 ⟨rfl, h⟩
  have H := hide h
  clear h
  go_wp2
  go_end0
  exact ⟨rfl, H.out⟩

set_option maxRecDepth 100000 in
theorem wu16_any (b : Nat) (v : Value) (L : List Nat) (n : Nat) (w : World) (hw : Wr w b v .nilIface L) (hn : n < 65536) (hl : L.length + 2 ≤ 140737488355328) :
    Calls Tryz.prog 41 #[.pointer (some ⟨b, 0, none⟩), .int .i64 (n : Int)] w fun e w' => e = .returned (.tuple #[]) ∧ ∃ v', Wr w' b v' .nilIface (L ++ be n 2) ∧ Frm (WS b v) w w' ∧ NewB w v v' := by
  have HC := hide (wnumber_any b v L n 2 w hw (by decide) (by omega) hl)
  clear hw
  go_enter Tryz.func41, Tryz.ntmps41
  go_wp2_with fail
  refine Calls.mono HC.out ?_
  rintro e w1 ⟨rfl, h⟩
  have H := hide h
  clear h
  go_wp2
  go_end0
  exact ⟨rfl, H.out⟩

set_option maxRecDepth 100000 in
theorem wu32_any (b : Nat) (v : Value) (L : List Nat) (n : Nat) (w : World) (hw : Wr w b v .nilIface L) (hn : n < 4294967296) (hl : L.length + 4 ≤ 140737488355328) :
    Calls Tryz.prog 43 #[.pointer (some ⟨b, 0, none⟩), .int .i64 (n : Int)] w fun e w' => e = .returned (.tuple #[]) ∧ ∃ v', Wr w' b v' .nilIface (L ++ be n 4) ∧ Frm (WS b v) w w' ∧ NewB w v v' := by
  have HC := hide (wnumber_any b v L n 4 w hw (by decide) (by omega) hl)
  clear hw
  go_enter Tryz.func43, Tryz.ntmps43
  go_wp2_with fail
  refine Calls.mono HC.out ?_
  rintro e w1 ⟨rfl, h⟩
  have H := hide h
  clear h
  go_wp2
  go_end0
  exact ⟨rfl, H.out⟩

set_option maxRecDepth 100000 in
theorem done_ok (b : Nat) (v : Value) (L : List Nat) (w : World) (hw : Wr w b v .nilIface L) (hl : L.length ≤ 140737488355328) :
    Calls Tryz.prog 45 #[.pointer (some ⟨b, 0, none⟩)] w fun e w' => e = .returned (.tuple #[.slice (some ⟨w.heap.size, 0, none⟩) L.length L.length, .nilIface]) ∧ Own w' w.heap.size (.slice (some ⟨w.heap.size, 0, none⟩) L.length L.length) L ∧ Below w.heap.size w w' := by
  have h0 := hw.two.c0
  have h1 := hw.two.c1
  obtain ⟨a, c, rfl, hb⟩ := hw.own.shown hl hw.small
  have HC := hide (wfresh_any a L.length c L w hb)
  clear hw hb
  generalize L.length = n at *
  go_enter Tryz.func45, Tryz.ntmps45
  go_wp2_with fail
  refine Calls.mono HC.out ?_
  rintro e w1 ⟨rfl, ho, hb⟩
  have HO := hide ho
  have HB := hide hb
  clear ho hb
  go_wp2
  go_ret2
  exact ⟨rfl, HO.out, HB.out⟩
end Go.Proofs.YtdbciciljeainaaGreatDoor
