/-
  Instructions as numbers: the form by the table, the ranges of the fields, the instruction of a word.
  The program's instructions: Form, Check, Decode.
  The program's Check of an instruction.
  Blocks of the call's own, and one of five cells that is written whole.
-/
import Derived.Test.YtegkodgondlcmaaGreatDoorBase
import Derived.Deep.QuietTactic
namespace Go.Proofs.YtegkodgondlcmaaGreatDoor
open Go.RowKit FerryCrc
set_option linter.unusedVariables false
set_option linter.unusedSimpArgs false

/-- The form of an instruction's number; 0: there is none. -/
def form (op : Int) : Nat :=
  if 1 ≤ op ∧ op ≤ 15 then 1 else if op = 16 ∨ (32 ≤ op ∧ op ≤ 37) ∨ (48 ≤ op ∧ op ≤ 53) then 2
  else if 17 ≤ op ∧ op ≤ 19 then 3 else if op = 20 then 4 else if op = 54 then 5 else if op = 55 then 6 else if op = 64 then 7 else 0
theorem form_le (op : Int) : form op ≤ 7 := by
  unfold form
  repeat' split
  all_goals omega
/-- An instruction's fields. -/
structure Ins where
  op : Int
  a : Int
  b : Int
  c : Int
  imm : Int
def Ins.cells (i : Ins) : Array Value := #[.int .i64 i.op, .int .i64 i.a, .int .i64 i.b, .int .i64 i.c, .int .i64 i.imm]
def noIns : Ins := ⟨0, 0, 0, 0, 0⟩
/-- The greatest A, B, C, the least and the greatest Imm of a form. -/
def hiA (f : Nat) : Int := [0, 15, 15, 15, 15, 15, 0, 0].getD f 0
def hiB (f : Nat) : Int := [0, 15, 15, 15, 0, 0, 15, 0].getD f 0
def hiC (f : Nat) : Int := [0, 15, 0, 0, 0, 0, 0, 0].getD f 0
def loI (f : Nat) : Int := [0, 0, -32768, 0, 0, -32768, -32768, 0].getD f 0
def hiI (f : Nat) : Int := [0, 0, 32767, 65535, 65535, 32767, 32767, 65535].getD f 0
def bA (i : Ins) : Bool := decide (0 ≤ i.a) && decide (i.a ≤ hiA (form i.op))
def bB (i : Ins) : Bool := decide (0 ≤ i.b) && decide (i.b ≤ hiB (form i.op))
def bC (i : Ins) : Bool := decide (0 ≤ i.c) && decide (i.c ≤ hiC (form i.op))
def bI (i : Ins) : Bool := decide (loI (form i.op) ≤ i.imm) && decide (i.imm ≤ hiI (form i.op))
/-- Is it an instruction? -/
def okI (i : Ins) : Bool := decide (form i.op ≠ 0) && (bA i && (bB i && (bC i && bI i)))
/-- Sixteen bits with a sign. -/
def s16 (n : Nat) : Int := if n < 32768 then (n : Int) else (n : Int) - 65536
/-- What the program holds against the ranges. -/
def cand (w : Nat) : Ins :=
  let f := form ((w / 16777216 : Nat) : Int)
  ⟨((w / 16777216 : Nat) : Int), ((w / 1048576 % 16 : Nat) : Int), ((w / 65536 % 16 : Nat) : Int), if f = 1 then ((w / 4096 % 16 : Nat) : Int) else 0,
    if f = 1 then ((w % 4096 : Nat) : Int) else if f = 2 ∨ f = 5 ∨ f = 6 then s16 (w % 65536) else ((w % 65536 : Nat) : Int)⟩
/-- The instruction of a word; all zero where there is none. -/
def dec (w : Nat) : Ins := if okI (cand w) then cand w else noIns
end Go.Proofs.YtegkodgondlcmaaGreatDoor
namespace Go.Proofs.YtegkodgondlcmaaGreatDoor
open Go.RowKit FerryCrc
set_option linter.unusedVariables false
set_option linter.unusedSimpArgs false

set_option maxRecDepth 100000 in
theorem branches_any (op : Int) (w : World) : Calls Tryz.prog 88 #[.int .i64 op] w fun e w' => e = .returned (.bool (decide (48 ≤ op ∧ op ≤ 53))) ∧ w = w' := by
  go_enter Tryz.func88, Tryz.ntmps88
  by_cases h1 : 48 ≤ op
  all_goals
    go_wp2
    go_ret
    simp [h1]
  omega
set_option maxRecDepth 100000 in
theorem within_any (n lo hi : Int) (w : World) : Calls Tryz.prog 89 #[.int .i64 n, .int .i64 lo, .int .i64 hi] w fun e w' => e = .returned (.bool (decide (lo ≤ n) && decide (n ≤ hi))) ∧ w = w' := by
  go_enter Tryz.func89, Tryz.ntmps89
  by_cases h1 : lo ≤ n
  all_goals
    go_wp2
    go_ret
    simp [h1]
  omega
set_option maxRecDepth 100000 in
set_option maxHeartbeats 4000000 in
theorem form_any (op : Int) (w : World) : Calls Tryz.prog 70 #[.int .i64 op] w fun e w' => e = .returned (.int .i64 ((form op : Nat) : Int)) ∧ w = w' := by
  go_enter Tryz.func70, Tryz.ntmps70
  go_wp2_with (first | (go_at_call 88; refine (branches_any _ _).mono ?_; rintro e w' ⟨rfl, rfl⟩))
  all_goals
    go_ret
    refine ⟨?_, rfl⟩
    simp only [beq_iff_eq, beq_eq_false_iff_ne, ne_eq, decide_eq_true_eq, decide_eq_false_iff_not] at *
    unfold form
    repeat' split
  all_goals first | rfl | (exfalso; omega)
end Go.Proofs.YtegkodgondlcmaaGreatDoor
namespace Go.Proofs.YtegkodgondlcmaaGreatDoor
open Go.RowKit FerryCrc
set_option linter.unusedVariables false
set_option linter.unusedSimpArgs false

/-- What the package-level variables hold that the instructions read. -/
structure Isv (w : World) : Prop where
  kind : ∃ A, w.cell? ⟨7, 0, none⟩ = some (.iface 168 (.pointer (some A)))
  range : ∃ A, w.cell? ⟨4, 0, none⟩ = some (.iface 168 (.pointer (some A)))
  row : ∀ f : Nat, f < 8 → w.cell? ⟨21, f * 5, none⟩ = some (.int .i64 (hiA f)) ∧ w.cell? ⟨21, f * 5 + 1, none⟩ = some (.int .i64 (hiB f)) ∧ w.cell? ⟨21, f * 5 + 2, none⟩ = some (.int .i64 (hiC f)) ∧ w.cell? ⟨21, f * 5 + 3, none⟩ = some (.int .i64 (loI f)) ∧ w.cell? ⟨21, f * 5 + 4, none⟩ = some (.int .i64 (hiI f))

theorem within_at {n lo hi : Int} {t : Bool} (h : (decide (lo ≤ n) && decide (n ≤ hi)) = t) (w : World) : Calls Tryz.prog 89 #[.int .i64 n, .int .i64 lo, .int .i64 hi] w fun e w' => e = .returned (.bool t) ∧ w = w' := by
  rw [← h]
  exact within_any n lo hi w

set_option maxRecDepth 100000 in
set_option maxHeartbeats 4000000 in
theorem check_any (i : Ins) (w : World) (hv : Isv w) : Calls Tryz.prog 71 #[.agg i.cells] w fun e w' => (if okI i then e = .returned .nilIface else ∃ A, e = .returned (.iface 168 (.pointer (some A)))) ∧ Below w.heap.size w w' := by
  obtain ⟨AK, hk⟩ := hv.kind
  obtain ⟨AR, hr⟩ := hv.range
  obtain ⟨op, a, b, c, imm⟩ := i
  obtain ⟨f, hf⟩ : ∃ f, form op = f := ⟨_, rfl⟩
  have f7 : f ≤ 7 := by rw [← hf]; exact form_le op
  obtain ⟨r0, r1, r2, r3, r4⟩ := hv.row f (by omega)
  have HF := hide (form_any op)
  rw [hf] at HF
  have HE : Hid (okI ⟨op, a, b, c, imm⟩ = (decide (f ≠ 0) && ((decide (0 ≤ a) && decide (a ≤ hiA f)) && ((decide (0 ≤ b) && decide (b ≤ hiB f)) && ((decide (0 ≤ c) && decide (c ≤ hiC f)) && (decide (loI f ≤ imm) && decide (imm ≤ hiI f))))))) := by
    unfold Hid okI bA bB bC bI
    rw [hf]
  obtain ⟨tA, hA⟩ : ∃ t, (decide (0 ≤ a) && decide (a ≤ hiA f)) = t := ⟨_, rfl⟩
  obtain ⟨tB, hB⟩ : ∃ t, (decide (0 ≤ b) && decide (b ≤ hiB f)) = t := ⟨_, rfl⟩
  obtain ⟨tC, hC⟩ : ∃ t, (decide (0 ≤ c) && decide (c ≤ hiC f)) = t := ⟨_, rfl⟩
  obtain ⟨tI, hI⟩ : ∃ t, (decide (loI f ≤ imm) && decide (imm ≤ hiI f)) = t := ⟨_, rfl⟩
  rw [hA, hB, hC, hI] at HE
  have HA := hide (within_at hA)
  have HB := hide (within_at hB)
  have HC := hide (within_at hC)
  have HI := hide (within_at hI)
  rw [HE.out]
  clear HE hA hB hC hI hf hv
  generalize hiA f = x0 at *
  generalize hiB f = x1 at *
  generalize hiC f = x2 at *
  generalize loI f = x3 at *
  generalize hiI f = x4 at *
  unfold Ins.cells
  have hB0 : Below w.heap.size w (w.alloc (.cells #[.int .i64 op, .int .i64 a, .int .i64 b, .int .i64 c, .int .i64 imm] 67)) := (Below.refl _ _).alloc (Nat.le_refl _) _
  have k0 := (hB0.cell (p := ⟨7, 0, none⟩) (block_lt_of_cell hk)).trans hk
  have k1 := (hB0.cell (p := ⟨4, 0, none⟩) (block_lt_of_cell hr)).trans hr
  have s0 := (hB0.cell (p := ⟨21, f * 5, none⟩) (block_lt_of_cell r0)).trans r0
  have s1 := (hB0.cell (p := ⟨21, f * 5 + 1, none⟩) (block_lt_of_cell r1)).trans r1
  have s2 := (hB0.cell (p := ⟨21, f * 5 + 2, none⟩) (block_lt_of_cell r2)).trans r2
  have s3 := (hB0.cell (p := ⟨21, f * 5 + 3, none⟩) (block_lt_of_cell r3)).trans r3
  have s4 := (hB0.cell (p := ⟨21, f * 5 + 4, none⟩) (block_lt_of_cell r4)).trans r4
  have c0 : (w.alloc (.cells #[.int .i64 op, .int .i64 a, .int .i64 b, .int .i64 c, .int .i64 imm] 67)).cell? ⟨w.heap.size, 0, none⟩ = some (.int .i64 op) := by rw [World.cell?_alloc_at _ _ _ _ rfl]; rfl
  have c1 : (w.alloc (.cells #[.int .i64 op, .int .i64 a, .int .i64 b, .int .i64 c, .int .i64 imm] 67)).cell? ⟨w.heap.size, 1, none⟩ = some (.int .i64 a) := by rw [World.cell?_alloc_at _ _ _ _ rfl]; rfl
  have c2 : (w.alloc (.cells #[.int .i64 op, .int .i64 a, .int .i64 b, .int .i64 c, .int .i64 imm] 67)).cell? ⟨w.heap.size, 2, none⟩ = some (.int .i64 b) := by rw [World.cell?_alloc_at _ _ _ _ rfl]; rfl
  have c3 : (w.alloc (.cells #[.int .i64 op, .int .i64 a, .int .i64 b, .int .i64 c, .int .i64 imm] 67)).cell? ⟨w.heap.size, 3, none⟩ = some (.int .i64 c) := by rw [World.cell?_alloc_at _ _ _ _ rfl]; rfl
  have c4 : (w.alloc (.cells #[.int .i64 op, .int .i64 a, .int .i64 b, .int .i64 c, .int .i64 imm] 67)).cell? ⟨w.heap.size, 4, none⟩ = some (.int .i64 imm) := by rw [World.cell?_alloc_at _ _ _ _ rfl]; rfl
  have D0 := hide hB0
  clear hk hr r0 r1 r2 r3 r4 hB0
  by_cases f0 : f = 0
  · subst f0
    go_enter Tryz.func71, Tryz.ntmps71
    go_wp2_with (first | (go_at_call 70; refine (HF.out _).mono ?_; rintro e w' ⟨rfl, rfl⟩))
    go_ret
    exact ⟨⟨_, rfl⟩, D0.out⟩
  have d0 : ((f : Int) == 0) = false := by simp; omega
  have f8 : (f : Int) < 8 := by omega
  have d1 : decide (f ≠ 0) = true := by simp [f0]
  rw [d1]
  go_enter Tryz.func71, Tryz.ntmps71
  go_wp2_with (first | (go_at_call 70; refine (HF.out _).mono ?_; rintro e w' ⟨rfl, rfl⟩))
  obtain ⟨W0, hW0⟩ : ∃ W0, w.alloc (.cells #[.int .i64 op, .int .i64 a, .int .i64 b, .int .i64 c, .int .i64 imm] 67) = W0 := ⟨_, rfl⟩
  have hz : W0.heap.size = w.heap.size + 1 := by rw [← hW0]; simp
  have hs0 : w.heap.size < W0.heap.size := by omega
  rw [hW0] at D0 k1 c1 c2 c3 c4 ⊢
  have hB1 : Below W0.heap.size W0 (W0.alloc (.cells #[.int .i64 x0, .int .i64 x1, .int .i64 x2, .int .i64 x3, .int .i64 x4] 163)) := (Below.refl _ _).alloc (Nat.le_refl _) _
  have e1 := (hB1.cell (p := ⟨4, 0, none⟩) (block_lt_of_cell k1)).trans k1
  have b1 := (hB1.cell (p := ⟨w.heap.size, 1, none⟩) (block_lt_of_cell c1)).trans c1
  have b2 := (hB1.cell (p := ⟨w.heap.size, 2, none⟩) (block_lt_of_cell c2)).trans c2
  have b3 := (hB1.cell (p := ⟨w.heap.size, 3, none⟩) (block_lt_of_cell c3)).trans c3
  have b4 := (hB1.cell (p := ⟨w.heap.size, 4, none⟩) (block_lt_of_cell c4)).trans c4
  have m0 : (W0.alloc (.cells #[.int .i64 x0, .int .i64 x1, .int .i64 x2, .int .i64 x3, .int .i64 x4] 163)).cell? ⟨W0.heap.size, 0, none⟩ = some (.int .i64 x0) := by rw [World.cell?_alloc_at _ _ _ _ rfl]; rfl
  have m1 : (W0.alloc (.cells #[.int .i64 x0, .int .i64 x1, .int .i64 x2, .int .i64 x3, .int .i64 x4] 163)).cell? ⟨W0.heap.size, 1, none⟩ = some (.int .i64 x1) := by rw [World.cell?_alloc_at _ _ _ _ rfl]; rfl
  have m2 : (W0.alloc (.cells #[.int .i64 x0, .int .i64 x1, .int .i64 x2, .int .i64 x3, .int .i64 x4] 163)).cell? ⟨W0.heap.size, 2, none⟩ = some (.int .i64 x2) := by rw [World.cell?_alloc_at _ _ _ _ rfl]; rfl
  have m3 : (W0.alloc (.cells #[.int .i64 x0, .int .i64 x1, .int .i64 x2, .int .i64 x3, .int .i64 x4] 163)).cell? ⟨W0.heap.size, 3, none⟩ = some (.int .i64 x3) := by rw [World.cell?_alloc_at _ _ _ _ rfl]; rfl
  have m4 : (W0.alloc (.cells #[.int .i64 x0, .int .i64 x1, .int .i64 x2, .int .i64 x3, .int .i64 x4] 163)).cell? ⟨W0.heap.size, 4, none⟩ = some (.int .i64 x4) := by rw [World.cell?_alloc_at _ _ _ _ rfl]; rfl
  have D1 := hide (D0.out.trans (hB1.mono (Nat.le_of_lt hs0)))
  clear k0 k1 s0 s1 s2 s3 s4 c0 c1 c2 c3 c4 hB1 D0 hW0 HF
  rw [hz] at m0 m1 m2 m3 m4
  generalize W0.alloc (.cells #[.int .i64 x0, .int .i64 x1, .int .i64 x2, .int .i64 x3, .int .i64 x4] 163) = W1 at *
  generalize w.heap.size + 1 = g1 at *
  clear hz hs0 d0 d1 f8 f0 f7
  cases tA with
  | false =>
    refine Calls.mono (HA.out _) ?_
    rintro e w' ⟨rfl, rfl⟩
    go_wp2
    go_ret
    exact ⟨⟨_, rfl⟩, D1.out⟩
  | true =>
    cases tB with
    | false =>
      refine Calls.mono (HA.out _) ?_
      rintro e w' ⟨rfl, rfl⟩
      go_wp2_with fail
      refine Calls.mono (HB.out _) ?_
      rintro e w' ⟨rfl, rfl⟩
      go_wp2
      go_ret
      exact ⟨⟨_, rfl⟩, D1.out⟩
    | true =>
      cases tC with
      | false =>
        refine Calls.mono (HA.out _) ?_
        rintro e w' ⟨rfl, rfl⟩
        go_wp2_with fail
        refine Calls.mono (HB.out _) ?_
        rintro e w' ⟨rfl, rfl⟩
        go_wp2_with fail
        refine Calls.mono (HC.out _) ?_
        rintro e w' ⟨rfl, rfl⟩
        go_wp2
        go_ret
        exact ⟨⟨_, rfl⟩, D1.out⟩
      | true =>
        cases tI with
        | false =>
          refine Calls.mono (HA.out _) ?_
          rintro e w' ⟨rfl, rfl⟩
          go_wp2_with fail
          refine Calls.mono (HB.out _) ?_
          rintro e w' ⟨rfl, rfl⟩
          go_wp2_with fail
          refine Calls.mono (HC.out _) ?_
          rintro e w' ⟨rfl, rfl⟩
          go_wp2_with fail
          refine Calls.mono (HI.out _) ?_
          rintro e w' ⟨rfl, rfl⟩
          go_wp2
          go_ret
          exact ⟨⟨_, rfl⟩, D1.out⟩
        | true =>
          refine Calls.mono (HA.out _) ?_
          rintro e w' ⟨rfl, rfl⟩
          go_wp2_with fail
          refine Calls.mono (HB.out _) ?_
          rintro e w' ⟨rfl, rfl⟩
          go_wp2_with fail
          refine Calls.mono (HC.out _) ?_
          rintro e w' ⟨rfl, rfl⟩
          go_wp2_with fail
          refine Calls.mono (HI.out _) ?_
          rintro e w' ⟨rfl, rfl⟩
          go_wp2
          go_ret
          exact ⟨rfl, D1.out⟩
end Go.Proofs.YtegkodgondlcmaaGreatDoor
namespace Go.Proofs.YtegkodgondlcmaaGreatDoor
open Go.RowKit FerryCrc
set_option linter.unusedVariables false
set_option linter.unusedSimpArgs false

/-- The cells of a block of the call's own. -/
structure Bl (w : World) (g : Nat) (cs : List Value) : Prop where
  cell : ∀ j v, cs[j]? = some v → w.cell? ⟨g, j, none⟩ = some v
  free : ∀ j, w.frozen? ⟨g, j, none⟩ = false
theorem bl_alloc (w : World) (c : Array Value) (t : TypeId) : Bl (w.alloc (.cells c t)) w.heap.size c.toList :=
  ⟨fun j v hv => by rw [World.cell?_alloc_at _ _ _ _ rfl]; simpa using hv, fun j => World.frozen?_alloc_new _ _ _ _⟩
theorem Bl.below {w w' : World} {g : Nat} {cs : List Value} (h : Bl w g cs) (hg : g < w.heap.size) (hb : Below w.heap.size w w') : Bl w' g cs :=
  ⟨fun j v hv => by rw [hb.cell (p := ⟨g, j, none⟩) hg]; exact h.cell j v hv, fun j => by rw [hb.frozen (p := ⟨g, j, none⟩) hg]; exact h.free j⟩
theorem Bl.far {w : World} {g g' k : Nat} {cs : List Value} {u : Value} (h : Bl w g cs) (hne : g' ≠ g) : Bl (w.setCell ⟨g', k, none⟩ u) g cs :=
  ⟨fun j v hv => by rw [World.cell?_setCell_other _ _ _ _ (by simp)]; exact h.cell j v hv, fun j => by rw [World.frozen?_setCell]; exact h.free j⟩
theorem Bl.set {w : World} {g : Nat} {cs : List Value} (h : Bl w g cs) {k : Nat} (hk : k < cs.length) (u : Value) : Bl (w.setCell ⟨g, k, none⟩ u) g (cs.set k u) := by
  refine ⟨fun j v hv => ?_, fun j => by rw [World.frozen?_setCell]; exact h.free j⟩
  by_cases hj : j = k
  · subst hj
    rw [List.getElem?_set_self hk] at hv
    obtain rfl := Option.some.inj hv
    exact World.cell?_setCell_same _ _ _ (h.cell j _ (List.getElem?_eq_getElem hk))
  · rw [List.getElem?_set_ne (Ne.symm hj)] at hv
    rw [World.cell?_setCell_other _ _ _ _ (by simp [hj])]
    exact h.cell j v hv
/-- Five cells of a block written. -/
abbrev set5 (w : World) (g : Nat) (x0 x1 x2 x3 x4 : Value) : World :=
  ((((w.setCell ⟨g, 0, none⟩ x0).setCell ⟨g, 1, none⟩ x1).setCell ⟨g, 2, none⟩ x2).setCell ⟨g, 3, none⟩ x3).setCell ⟨g, 4, none⟩ x4
theorem Bl.five {w : World} {g : Nat} {y0 y1 y2 y3 y4 : Value} (h : Bl w g [y0, y1, y2, y3, y4]) (x0 x1 x2 x3 x4 : Value) : Bl (set5 w g x0 x1 x2 x3 x4) g [x0, x1, x2, x3, x4] :=
  ((((h.set (k := 0) (by simp) x0).set (k := 1) (by simp) x1).set (k := 2) (by simp) x2).set (k := 3) (by simp) x3).set (k := 4) (by simp) x4
theorem below_five {w0 w : World} {g B : Nat} (h : Below B w0 w) (hg : B ≤ g) (x0 x1 x2 x3 x4 : Value) : Below B w0 (set5 w g x0 x1 x2 x3 x4) :=
  ((((h.setCell (p := ⟨g, 0, none⟩) hg x0).setCell (p := ⟨g, 1, none⟩) hg x1).setCell (p := ⟨g, 2, none⟩) hg x2).setCell (p := ⟨g, 3, none⟩) hg x3).setCell (p := ⟨g, 4, none⟩) hg x4
theorem bl_get {w : World} {g : Nat} {x0 x1 x2 x3 x4 : Value} (h : Bl w g [x0, x1, x2, x3, x4]) :
    w.cell? ⟨g, 0, none⟩ = some x0 ∧ w.cell? ⟨g, 1, none⟩ = some x1 ∧ w.cell? ⟨g, 2, none⟩ = some x2 ∧ w.cell? ⟨g, 3, none⟩ = some x3 ∧ w.cell? ⟨g, 4, none⟩ = some x4 :=
  ⟨h.cell 0 _ rfl, h.cell 1 _ rfl, h.cell 2 _ rfl, h.cell 3 _ rfl, h.cell 4 _ rfl⟩
theorem bl_free {w : World} {g : Nat} {x0 x1 x2 x3 x4 : Value} (h : Bl w g [x0, x1, x2, x3, x4]) :
    w.frozen? ⟨g, 0, none⟩ = false ∧ w.frozen? ⟨g, 1, none⟩ = false ∧ w.frozen? ⟨g, 2, none⟩ = false ∧ w.frozen? ⟨g, 3, none⟩ = false ∧ w.frozen? ⟨g, 4, none⟩ = false :=
  ⟨h.free 0, h.free 1, h.free 2, h.free 3, h.free 4⟩
theorem fin5 {w0 w2 : World} {g B : Nat} {y0 y1 y2 y3 y4 : Value} (h : Bl w2 g [y0, y1, y2, y3, y4]) (hb : Below B w0 w2) (hg : B ≤ g) (x0 x1 x2 x3 x4 : Value) :
    ((set5 w2 g x0 x1 x2 x3 x4).cell? ⟨g, 0, none⟩ = some x0 ∧ (set5 w2 g x0 x1 x2 x3 x4).cell? ⟨g, 1, none⟩ = some x1 ∧ (set5 w2 g x0 x1 x2 x3 x4).cell? ⟨g, 2, none⟩ = some x2 ∧ (set5 w2 g x0 x1 x2 x3 x4).cell? ⟨g, 3, none⟩ = some x3 ∧ (set5 w2 g x0 x1 x2 x3 x4).cell? ⟨g, 4, none⟩ = some x4) ∧ Below B w0 (set5 w2 g x0 x1 x2 x3 x4) :=
  ⟨bl_get (h.five x0 x1 x2 x3 x4), below_five hb hg x0 x1 x2 x3 x4⟩
theorem dec_world (w : World) (x0 x1 x2 x3 x4 : Value) (w2 : World) (t : TypeId) (y : Array Value) (hb : Below ((w.alloc (.cells y t)).alloc (.cells #[x0, x1, x2, x3, x4] t)).heap.size ((w.alloc (.cells y t)).alloc (.cells #[x0, x1, x2, x3, x4] t)) w2) :
    Bl w2 w.heap.size y.toList ∧ Bl w2 (w.heap.size + 1) [x0, x1, x2, x3, x4] ∧ Below w.heap.size w w2 := by
  obtain ⟨W, hW⟩ : ∃ W, w.alloc (.cells y t) = W := ⟨_, rfl⟩
  have h0 : Bl W w.heap.size y.toList := by rw [← hW]; exact bl_alloc w y t
  have hs : W.heap.size = w.heap.size + 1 := by rw [← hW]; simp
  have hB : Below w.heap.size w W := by rw [← hW]; exact (Below.refl _ _).alloc (Nat.le_refl _) _
  rw [hW] at hb
  have h1 := bl_alloc W #[x0, x1, x2, x3, x4] t
  have hB1 : Below W.heap.size W (W.alloc (.cells #[x0, x1, x2, x3, x4] t)) := (Below.refl _ _).alloc (Nat.le_refl _) _
  have hs1 : (W.alloc (.cells #[x0, x1, x2, x3, x4] t)).heap.size = w.heap.size + 2 := by simp [hs]
  have hb' : Below W.heap.size W w2 := hB1.trans (hb.mono (by omega))
  refine ⟨h0.below (by omega) hb', ?_, hB.trans (hb'.mono (by omega))⟩
  rw [hs] at h1
  exact h1.below (by omega) hb
theorem check_at (i : Ins) (x : Array Value) (hx : x = i.cells) (w : World) (hv : Isv w) : Calls Tryz.prog 71 #[.agg x] w fun e w' => (if okI i then e = .returned .nilIface else ∃ A, e = .returned (.iface 168 (.pointer (some A)))) ∧ Below w.heap.size w w' := by
  subst hx
  exact check_any i w hv
end Go.Proofs.YtegkodgondlcmaaGreatDoor
