/-
  The writer of package wire: records, and all that was put.
-/
import Derived.Test.YtohoncgkekiihaaDoorWrPut
namespace FerryCrc
/-- The bytes of a record. -/
def encR (tag : Nat) (l : List Nat) : List Nat := tag :: (be l.length 2 ++ l)
theorem encR_len (tag : Nat) (l : List Nat) : (encR tag l).length = l.length + 3 := by
  show (be l.length 2 ++ l).length + 1 = _
  rw [List.length_append, be_len]
  omega
end FerryCrc
namespace Go.Proofs.YtohoncgkekiihaaDoor
open Go.RowKit FerryCrc
set_option linter.unusedVariables false
set_option linter.unusedSimpArgs false

/-- The bytes of a writer's argument lie apart from the writer's own. -/
def Far (a : Option Addr) (m b : Nat) (v : Value) : Prop := 0 < m → ∀ b' off, a = some ⟨b', off, none⟩ → b' ≠ b ∧ v.ownBlock ≠ some b'
theorem Far.bts {w w' : World} {a : Option Addr} {m c b : Nat} {v : Value} {l : List Nat} (h : Far a m b v) (hx : Bts w a m c l) (hf : Frm (WS b v) w w') : Bts w' a m c l :=
  ⟨hx.size, hx.most, hx.fit, hx.small, hx.null, fun k hk => by
    obtain ⟨b', off, ha, c', hl, hc⟩ := hx.cell k hk
    have := h (by omega) b' off ha
    exact ⟨b', off, ha, c', hl, hf.cell hc (fun t => by rcases t with t | t; exact this.1 t; exact this.2 t)⟩⟩
theorem Far.next {w : World} {a : Option Addr} {m c b : Nat} {v v' : Value} {l : List Nat} (h : Far a m b v) (hx : Bts w a m c l) (hn : NewB w v v') : Far a m b v' := fun h0 b' off ha => by
  obtain ⟨b2, off2, ha2, c', _, hc⟩ := hx.cell 0 h0
  rw [ha] at ha2
  simp only [Option.some.injEq, Addr.mk.injEq, and_true] at ha2
  obtain ⟨rfl, rfl⟩ := ha2
  have hlt := block_lt_of_cell hc
  refine ⟨(h h0 b' off ha).1, fun e => ?_⟩
  rcases hn b' e with t | t
  · exact (h h0 b' off ha).2 t
  · simp only at hlt
    omega

set_option maxRecDepth 100000 in
theorem fits_ok (b : Nat) (v : Value) (L : List Nat) (n : Nat) (w : World) (hw : Wr w b v .nilIface L) (hn : n ≤ 65535) :
    Calls Tryd.prog 76 #[.pointer (some ⟨b, 0, none⟩), .int .i64 (n : Int)] w fun e w' => e = .returned (.bool true) ∧ w = w' := by
  have h1 := hw.two.c1
  have d : ¬ (65535 : Int) < (n : Int) := by omega
  have d2 : ¬ 65535 < n := by omega
  clear hw
  go_enter Tryd.func76, Tryd.ntmps76
  go_wp2
  go_ret
  exact ⟨rfl, rfl⟩

set_option maxRecDepth 100000 in
theorem wu8_any (b : Nat) (v : Value) (L : List Nat) (n : Nat) (w : World) (hw : Wr w b v .nilIface L) (hn : n < 256) (hl : L.length + 1 ≤ 140737488355328) :
    Calls Tryd.prog 62 #[.pointer (some ⟨b, 0, none⟩), .int .i64 (n : Int)] w fun e w' => e = .returned (.tuple #[]) ∧ ∃ v', Wr w' b v' .nilIface (L ++ [n]) ∧ Frm (WS b v) w w' ∧ NewB w v v' := by
  have HC := hide (wnumber_any b v L n 1 w hw (by decide) (by omega) hl)
  rw [be_one n hn] at HC
  clear hw
  go_enter Tryd.func62, Tryd.ntmps62
  go_wp2_with fail
  refine Calls.mono HC.out ?_
  rintro e w1 ⟨rfl, h⟩
  have H := hide h
  clear h
  go_wp2
  go_end0
  exact ⟨rfl, H.out⟩

set_option maxRecDepth 100000 in
theorem record_any (b : Nat) (v : Value) (L : List Nat) (tag : Nat) (a : Option Addr) (m c : Nat) (l : List Nat) (w : World) (hw : Wr w b v .nilIface L) (hx : Bts w a m c l) (hfar : Far a m b v) (t1 : 1 ≤ tag) (t2 : tag ≤ 255) (hm : m ≤ 65535) (hl : L.length + 3 + m ≤ 140737488355328) :
    Calls Tryd.prog 38 #[.pointer (some ⟨b, 0, none⟩), .int .i64 (tag : Int), .slice a m c] w fun e w' => e = .returned (.tuple #[]) ∧ ∃ v', Wr w' b v' .nilIface (L ++ encR tag l) ∧ Frm (WS b v) w w' ∧ NewB w v v' := by
  have h1 := hw.two.c1
  have HW := hide hw
  have HX := hide hx
  have HF := hide hfar
  have HZ := hide hx.size
  have d1 : ¬ (tag : Int) < 1 := by omega
  have d2 : ¬ (255 : Int) < (tag : Int) := by omega
  have d3 : ¬ 255 < tag := by omega
  have d4 : ¬ tag < 1 := by omega
  have d5 : ¬ tag = 0 := by omega
  clear hw hx hfar
  go_enter Tryd.func38, Tryd.ntmps38
  go_wp2_with fail
  refine Calls.mono (fits_ok b v L m w HW.out hm) ?_
  rintro e w1 ⟨rfl, rfl⟩
  go_wp2_with fail
  refine Calls.mono (wu8_any b v L tag w HW.out (by omega) (by omega)) ?_
  rintro e w1 ⟨rfl, v1, q1, q2, q3⟩
  have HW1 := hide q1
  have HX1 := hide (HF.out.bts HX.out q2)
  have HF1 := hide (HF.out.next HX.out q3)
  have HR1 := hide q2
  have HN1 := hide q3
  clear q1 q2 q3
  go_wp2_with fail
  refine Calls.mono (wnumber_any b v1 (L ++ [tag]) m 2 w1 HW1.out (by decide) (by omega) (by simp; omega)) ?_
  rintro e w2 ⟨rfl, v2, q1, q2, q3⟩
  have HW2 := hide q1
  have HX2 := hide (HF1.out.bts HX1.out q2)
  have HR2 := hide (ws_trans HR1.out q2 HN1.out)
  have HN2 := hide (HN1.out.trans q3 HR1.out.size)
  clear q1 q2 q3
  go_wp2_with fail
  refine Calls.mono (raw_any b v2 _ a m c l w2 HW2.out HX2.out (by simp [be_len]; omega)) ?_
  rintro e w3 ⟨rfl, v3, q1, q2, q3⟩
  have HW3 := hide q1
  have HR3 := hide (ws_trans HR2.out q2 HN2.out)
  have HN3 := hide (HN2.out.trans q3 HR2.out.size)
  clear q1 q2 q3
  go_wp2
  go_end0
  refine ⟨rfl, v3, ?_, HR3.out, HN3.out⟩
  have := HW3.out
  have e : L ++ [tag] ++ be m 2 ++ l = L ++ encR tag l := by
    unfold encR
    rw [HZ.out]
    simp
  rw [← e]
  exact this

set_option maxRecDepth 100000 in
theorem done_ok (b : Nat) (v : Value) (L : List Nat) (w : World) (hw : Wr w b v .nilIface L) (hl : L.length ≤ 140737488355328) :
    Calls Tryd.prog 39 #[.pointer (some ⟨b, 0, none⟩)] w fun e w' => e = .returned (.tuple #[.slice (some ⟨w.heap.size, 0, none⟩) L.length L.length, .nilIface]) ∧ Own w' w.heap.size (.slice (some ⟨w.heap.size, 0, none⟩) L.length L.length) L ∧ Below w.heap.size w w' := by
  have h0 := hw.two.c0
  have h1 := hw.two.c1
  obtain ⟨a, c, rfl, hb⟩ := hw.own.shown hl hw.small
  have HC := hide (wfresh_any a L.length c L w hb)
  clear hw hb
  generalize L.length = n at *
  go_enter Tryd.func39, Tryd.ntmps39
  go_wp2_with fail
  refine Calls.mono HC.out ?_
  rintro e w1 ⟨rfl, ho, hb⟩
  have HO := hide ho
  have HB := hide hb
  clear ho hb
  go_wp2
  go_ret2
  exact ⟨rfl, HO.out, HB.out⟩
end Go.Proofs.YtohoncgkekiihaaDoor
