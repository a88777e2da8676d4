/-
  A list of operations, as memory holds it; where alu's Do and Test refuse; and what the program and the document answer to one operation.
-/
import Derived.Test.YthmibakcjhappaaDoorAlu
import Derived.Test.YthmibakcjhappaaDoorPlainP
import Derived.Test.YthmibakcjhappaaDoorRefDo2
import Derived.Test.YthmibakcjhappaaDoorCuts
namespace Go.Proofs.YthmibakcjhappaaDoor
open Go.RowKit FerryAlu
set_option linter.unusedVariables false

theorem doz {w : World} {E : Nat → Addr} (he : Errs w E) (op : Int) (b : Nat) (hop : op = 10 ∨ op = 11 ∨ op = 12 ∨ op = 13) :
    Calls Tryd.prog 6 #[.int .i64 op, .int .u32 (b : Int), .int .u32 0] w fun e w' => e = .returned (.tuple #[.int .u32 0, sent (E 20)]) ∧ Below w.heap.size w w' := by
  have v20 := he.v20
  clear he
  rcases hop with rfl | rfl | rfl | rfl
  all_goals (
    go_enter Tryd.func6, Tryd.ntmps6
    go_wp2
    go_region
    all_goals go_wp2
    all_goals (go_ret2; exact ⟨rfl, (Below.refl _ _).drew⟩))
set_option maxRecDepth 100000 in
set_option maxHeartbeats 400000 in
theorem dok {w : World} {E : Nat → Addr} (he : Errs w E) (op : Int) (b c : Nat) (h : op < 1 ∨ 15 < op) :
    Calls Tryd.prog 6 #[.int .i64 op, .int .u32 (b : Int), .int .u32 (c : Int)] w fun e w' => e = .returned (.tuple #[.int .u32 0, sent (E 7)]) ∧ Below w.heap.size w w' := by
  have v7 := he.v7
  have e1 : (op == 1) = false := by simp; omega
  have e2 : (op == 2) = false := by simp; omega
  have e3 : (op == 3) = false := by simp; omega
  have e4 : (op == 4) = false := by simp; omega
  have e5 : (op == 5) = false := by simp; omega
  have e6 : (op == 6) = false := by simp; omega
  have e7 : (op == 7) = false := by simp; omega
  have e8 : (op == 8) = false := by simp; omega
  have e9 : (op == 9) = false := by simp; omega
  have e10 : (op == 10) = false := by simp; omega
  have e11 : (op == 11) = false := by simp; omega
  have e12 : (op == 12) = false := by simp; omega
  have e13 : (op == 13) = false := by simp; omega
  have e14 : (op == 14) = false := by simp; omega
  have e15 : (op == 15) = false := by simp; omega
  clear he h
  go_enter Tryd.func6, Tryd.ntmps6
  go_wp2
  go_region
  all_goals go_wp2
  all_goals (go_ret2; exact ⟨rfl, (Below.refl _ _).drew⟩)
theorem testk {w : World} {E : Nat → Addr} (he : Errs w E) (op : Int) (b c : Nat) (h : op < 48 ∨ 53 < op) :
    Calls Tryd.prog 10 #[.int .i64 op, .int .u32 (b : Int), .int .u32 (c : Int)] w fun e w' => e = .returned (.tuple #[.bool false, sent (E 7)]) ∧ Below w.heap.size w w' := by
  have v7 := he.v7
  have e48 : (op == 48) = false := by simp; omega
  have e49 : (op == 49) = false := by simp; omega
  have e50 : (op == 50) = false := by simp; omega
  have e51 : (op == 51) = false := by simp; omega
  have e52 : (op == 52) = false := by simp; omega
  have e53 : (op == 53) = false := by simp; omega
  clear he h
  go_enter Tryd.func10, Tryd.ntmps10
  go_wp2
  go_region
  all_goals go_wp2
  all_goals (go_ret2; exact ⟨rfl, (Below.refl _ _).drew⟩)

theorem do_both (E : Nat → Addr) (op : Int) (b c : Nat) (hb : b < 4294967296) (hc : c < 4294967296) : Both E 7 6 #[.int .i64 op, .int .u32 (b : Int), .int .u32 (c : Int)] := by
  by_cases hk : op < 1 ∨ 15 < op
  · exact ⟨0, 7, _, bare_sent E 7 (by decide) (by decide), fun w he => refDo_kind op b c w hb hk, fun w he => dok he op b c hk⟩
  · rcases (by omega : op = 1 ∨ op = 2 ∨ op = 3 ∨ op = 4 ∨ op = 5 ∨ op = 6 ∨ op = 7 ∨ op = 8 ∨ op = 9 ∨ op = 10 ∨ op = 11 ∨ op = 12 ∨ op = 13 ∨ op = 14 ∨ op = 15) with rfl | rfl | rfl | rfl | rfl | rfl | rfl | rfl | rfl | rfl | rfl | rfl | rfl | rfl | rfl
    · exact ⟨_, 0, _, bare_nil E, fun w he => refDo_add b c w hb hc, fun w he => same_below (do_add b c w hb hc)⟩
    · exact ⟨_, 0, _, bare_nil E, fun w he => refDo_sub b c w hb hc, fun w he => same_below (do_sub b c w hb hc)⟩
    · exact ⟨_, 0, _, bare_nil E, fun w he => refDo_and b c w hb hc, fun w he => same_below (do_and b c w hb hc)⟩
    · exact ⟨_, 0, _, bare_nil E, fun w he => refDo_or b c w hb hc, fun w he => same_below (do_or b c w hb hc)⟩
    · exact ⟨_, 0, _, bare_nil E, fun w he => refDo_xor b c w hb hc, fun w he => same_below (do_xor b c w hb hc)⟩
    · exact ⟨_, 0, _, bare_nil E, fun w he => refDo_shl b c w hb hc, fun w he => same_below (do_shl b c w hb hc)⟩
    · exact ⟨_, 0, _, bare_nil E, fun w he => refDo_shr b c w hb hc, fun w he => same_below (do_shr b c w hb hc)⟩
    · exact ⟨_, 0, _, bare_nil E, fun w he => refDo_sar b c w hb hc, fun w he => same_below (do_sar b c w hb hc)⟩
    · exact ⟨_, 0, _, bare_nil E, fun w he => refDo_mul b c w hb hc, fun w he => same_below (do_mul b c w hb hc)⟩
    · by_cases h0 : c = 0
      · subst h0
        exact ⟨0, 20, _, bare_sent E 20 (by decide) (by decide), fun w he => refDo_zero10 b w hb, fun w he => doz he 10 b (by decide)⟩
      · exact ⟨_, 0, _, bare_nil E, fun w he => refDo_divu b c w hb hc h0, fun w he => same_below (do_divu b c w hb hc h0)⟩
    · by_cases h0 : c = 0
      · subst h0
        exact ⟨0, 20, _, bare_sent E 20 (by decide) (by decide), fun w he => refDo_zero11 b w hb, fun w he => doz he 11 b (by decide)⟩
      · exact ⟨_, 0, _, bare_nil E, fun w he => refDo_divs b c w hb hc h0, fun w he => same_below (do_divs b c w hb hc h0)⟩
    · by_cases h0 : c = 0
      · subst h0
        exact ⟨0, 20, _, bare_sent E 20 (by decide) (by decide), fun w he => refDo_zero12 b w hb, fun w he => doz he 12 b (by decide)⟩
      · exact ⟨_, 0, _, bare_nil E, fun w he => refDo_remu b c w hb hc h0, fun w he => same_below (do_remu b c w hb hc h0)⟩
    · by_cases h0 : c = 0
      · subst h0
        exact ⟨0, 20, _, bare_sent E 20 (by decide) (by decide), fun w he => refDo_zero13 b w hb, fun w he => doz he 13 b (by decide)⟩
      · exact ⟨_, 0, _, bare_nil E, fun w he => refDo_rems b c w hb hc h0, fun w he => same_below (do_rems b c w hb hc h0)⟩
    · exact ⟨_, 0, _, bare_nil E, fun w he => refDo_sltu b c w hb hc, fun w he => same_below (do_sltu b c w hb hc)⟩
    · exact ⟨_, 0, _, bare_nil E, fun w he => refDo_slts b c w hb hc, fun w he => same_below (do_slts b c w hb hc)⟩

/-- The program answers p and the error of number i, the document p and i. -/
def BothB (E : Nat → Addr) (f g : FuncId) (args : Array Value) : Prop :=
  ∃ (p : Bool) (i : Nat) (v : Value), Bare E v i ∧ (∀ w, Errs w E → Calls Tryd.prog f args w fun e w' => e = .returned (.tuple #[.bool p, .int .i64 (i : Int)]) ∧ Below w.heap.size w w') ∧
    (∀ w, Errs w E → Calls Tryd.prog g args w fun e w' => e = .returned (.tuple #[.bool p, v]) ∧ Below w.heap.size w w')
theorem test_both (E : Nat → Addr) (op : Int) (b c : Nat) (hb : b < 4294967296) (hc : c < 4294967296) : BothB E 9 10 #[.int .i64 op, .int .u32 (b : Int), .int .u32 (c : Int)] := by
  by_cases hk : op < 48 ∨ 53 < op
  · exact ⟨false, 7, _, bare_sent E 7 (by decide) (by decide), fun w he => same_below (refTest_kind op b c w hk), fun w he => testk he op b c hk⟩
  · rcases (by omega : op = 48 ∨ op = 49 ∨ op = 50 ∨ op = 51 ∨ op = 52 ∨ op = 53) with rfl | rfl | rfl | rfl | rfl | rfl
    · exact ⟨_, 0, _, bare_nil E, fun w he => same_below (refTest_eq b c w hb hc), fun w he => same_below (test_eq b c w hb hc)⟩
    · exact ⟨_, 0, _, bare_nil E, fun w he => same_below (refTest_ne b c w hb hc), fun w he => same_below (test_ne b c w hb hc)⟩
    · exact ⟨_, 0, _, bare_nil E, fun w he => same_below (refTest_ltu b c w hb hc), fun w he => same_below (test_ltu b c w hb hc)⟩
    · exact ⟨_, 0, _, bare_nil E, fun w he => same_below (refTest_lts b c w hb hc), fun w he => same_below (test_lts b c w hb hc)⟩
    · exact ⟨_, 0, _, bare_nil E, fun w he => same_below (refTest_geu b c w hb hc), fun w he => same_below (test_geu b c w hb hc)⟩
    · exact ⟨_, 0, _, bare_nil E, fun w he => same_below (refTest_ges b c w hb hc), fun w he => same_below (test_ges b c w hb hc)⟩

/-- One operation and its words. -/
structure Opn where
  op : Int
  b : Nat
  c : Nat
structure Opn.Ok (o : Opn) : Prop where
  b : o.b < 4294967296
  c : o.c < 4294967296
/-- The operations that a slice shows in a world. -/
structure Ops (w : World) (a : Option Addr) (len : Nat) (C : Nat → Opn) : Prop where
  most : len ≤ 9223372036854775807
  cell : ∀ k, k < len → ∃ b off, a = some ⟨b, off, none⟩ ∧ (C k).Ok ∧ w.cell? ⟨b, off + k * 3, none⟩ = some (.int .i64 (C k).op) ∧ w.cell? ⟨b, off + k * 3 + 1, none⟩ = some (.int .u32 ((C k).b : Int)) ∧ w.cell? ⟨b, off + k * 3 + 2, none⟩ = some (.int .u32 ((C k).c : Int))
theorem Ops.below {w w' : World} {a : Option Addr} {len : Nat} {C : Nat → Opn} (h : Ops w a len C) (hb : Below w.heap.size w w') : Ops w' a len C :=
  ⟨h.most, fun k hk => by
    obtain ⟨b, off, e, ok, c0, c1, c2⟩ := h.cell k hk
    exact ⟨b, off, e, ok, cell_below c0 hb, cell_below c1 hb, cell_below c2 hb⟩⟩
/-- An operation in a block of its own. -/
structure OBox (w : World) (g : Nat) (op b c : Int) : Prop where
  c0 : w.cell? ⟨g, 0, none⟩ = some (.int .i64 op)
  c1 : w.cell? ⟨g, 1, none⟩ = some (.int .u32 b)
  c2 : w.cell? ⟨g, 2, none⟩ = some (.int .u32 c)
theorem OBox.below {w w' : World} {g : Nat} {op b c : Int} (h : OBox w g op b c) (hb : Below w.heap.size w w') : OBox w' g op b c :=
  ⟨cell_below h.c0 hb, cell_below h.c1 hb, cell_below h.c2 hb⟩
theorem OBox.new (w : World) (t : TypeId) (op b c : Int) : OBox (w.alloc (.cells #[.int .i64 op, .int .u32 b, .int .u32 c] t)) w.heap.size op b c :=
  ⟨by rw [World.cell?_alloc_at _ _ _ _ rfl]; rfl, by rw [World.cell?_alloc_at _ _ _ _ rfl]; rfl, by rw [World.cell?_alloc_at _ _ _ _ rfl]; rfl⟩
end Go.Proofs.YthmibakcjhappaaDoor
