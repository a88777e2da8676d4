/-
  A list of cuts, as memory holds it; and what the program and the document answer to one cut.
-/
import Derived.Test.YthmibakcjhappaaDoorAluBad
namespace Go.Proofs.YthmibakcjhappaaDoor
open Go.RowKit FerryAlu
set_option linter.unusedVariables false

/-- One cut: a word, a place, a number of bits, another word, a number. -/
structure Cut where
  x : Nat
  lo : Int
  n : Int
  v : Nat
  num : Int
structure Cut.Ok (c : Cut) : Prop where
  x : c.x < 4294967296
  v : c.v < 4294967296
  lo1 : -9223372036854775808 ≤ c.lo
  lo2 : c.lo ≤ 9223372036854775807
  n1 : -9223372036854775808 ≤ c.n
  n2 : c.n ≤ 9223372036854775807
  m1 : -9223372036854775808 ≤ c.num
  m2 : c.num ≤ 9223372036854775807
/-- The cuts that a slice shows in a world. -/
structure Cuts (w : World) (a : Option Addr) (len : Nat) (C : Nat → Cut) : Prop where
  most : len ≤ 9223372036854775807
  cell : ∀ k, k < len → ∃ b off, a = some ⟨b, off, none⟩ ∧ (C k).Ok ∧ w.cell? ⟨b, off + k * 5, none⟩ = some (.int .u32 ((C k).x : Int)) ∧ w.cell? ⟨b, off + k * 5 + 1, none⟩ = some (.int .i64 (C k).lo) ∧
    w.cell? ⟨b, off + k * 5 + 2, none⟩ = some (.int .i64 (C k).n) ∧ w.cell? ⟨b, off + k * 5 + 3, none⟩ = some (.int .u32 ((C k).v : Int)) ∧ w.cell? ⟨b, off + k * 5 + 4, none⟩ = some (.int .i64 (C k).num)
theorem Cuts.below {w w' : World} {a : Option Addr} {len : Nat} {C : Nat → Cut} (h : Cuts w a len C) (hb : Below w.heap.size w w') : Cuts w' a len C :=
  ⟨h.most, fun k hk => by
    obtain ⟨b, off, e, ok, c0, c1, c2, c3, c4⟩ := h.cell k hk
    exact ⟨b, off, e, ok, cell_below c0 hb, cell_below c1 hb, cell_below c2 hb, cell_below c3 hb, cell_below c4 hb⟩⟩

/-- The program answers r and the error of number i, the document r and i. -/
def Both (E : Nat → Addr) (f g : FuncId) (args : Array Value) : Prop :=
  ∃ (r i : Nat) (v : Value), Bare E v i ∧ (∀ w, Errs w E → Calls Tryd.prog f args w fun e w' => e = .returned (.tuple #[.int .u32 (r : Int), .int .i64 (i : Int)]) ∧ Below w.heap.size w w') ∧
    (∀ w, Errs w E → Calls Tryd.prog g args w fun e w' => e = .returned (.tuple #[.int .u32 (r : Int), v]) ∧ Below w.heap.size w w')
theorem same_below {f : FuncId} {args : Array Value} {w : World} {r : Ending} (h : Calls Tryd.prog f args w fun e w' => e = r ∧ w = w') : Calls Tryd.prog f args w fun e w' => e = r ∧ Below w.heap.size w w' :=
  h.mono fun e w' h => ⟨h.1, h.2 ▸ Below.refl _ _⟩

theorem word_both (E : Nat → Addr) (k : Int) (h1 : -9223372036854775808 ≤ k) (h2 : k ≤ 9223372036854775807) : Both E 12 13 #[.int .i64 k] := by
  by_cases h : k < -2147483648 ∨ 4294967295 < k
  · exact ⟨0, 4, _, bare_sent E 4 (by decide) (by decide), fun w he => same_below (refWord_bad k w h), fun w he => word_bad he k h1 h2 h⟩
  · exact ⟨un k, 0, _, bare_nil E, fun w he => same_below (refWord_good k w (by omega) (by omega)), fun w he => same_below (word_any k w (by omega) (by omega))⟩
theorem sext_both (E : Nat → Addr) (x : Nat) (n : Int) (hx : x < 4294967296) : Both E 16 17 #[.int .u32 (x : Int), .int .i64 n] := by
  by_cases h : n < 1 ∨ 32 < n
  · exact ⟨0, 12, _, bare_sent E 12 (by decide) (by decide), fun w he => same_below (refSext_bad x n w h), fun w he => sext_bad he x n h⟩
  · obtain ⟨m, rfl⟩ := Int.eq_ofNat_of_zero_le (show 0 ≤ n by omega)
    exact ⟨sxt x m, 0, _, bare_nil E, fun w he => refSext_any x m w hx (by omega) (by omega), fun w he => same_below (sext_any x m w hx (by omega) (by omega))⟩
theorem field_both (E : Nat → Addr) (x : Nat) (lo n : Int) (hx : x < 4294967296) (h1 : -9223372036854775808 ≤ lo) (h2 : lo ≤ 9223372036854775807) (h3 : -9223372036854775808 ≤ n) (h4 : n ≤ 9223372036854775807) :
    Both E 18 11 #[.int .u32 (x : Int), .int .i64 lo, .int .i64 n] := by
  by_cases h : Fit lo n
  · unfold Fit at h
    obtain ⟨a, rfl⟩ := Int.eq_ofNat_of_zero_le h.1
    obtain ⟨m, rfl⟩ := Int.eq_ofNat_of_zero_le (show 0 ≤ n by omega)
    exact ⟨fld x a m, 0, _, bare_nil E, fun w he => refField_any x a m w hx (by omega) (by omega), fun w he => field_any x a m w hx (by omega) (by omega)⟩
  · exact ⟨0, 12, _, bare_sent E 12 (by decide) (by decide), fun w he => same_below (refField_bad x lo n w h1 h2 h3 h4 h), fun w he => field_bad he x lo n h1 h2 h3 h4 h⟩
theorem place_both (E : Nat → Addr) (x v : Nat) (lo n : Int) (hx : x < 4294967296) (hv : v < 4294967296) (h1 : -9223372036854775808 ≤ lo) (h2 : lo ≤ 9223372036854775807) (h3 : -9223372036854775808 ≤ n) (h4 : n ≤ 9223372036854775807) :
    Both E 19 20 #[.int .u32 (x : Int), .int .i64 lo, .int .i64 n, .int .u32 (v : Int)] := by
  by_cases h : Fit lo n
  · unfold Fit at h
    obtain ⟨a, rfl⟩ := Int.eq_ofNat_of_zero_le h.1
    obtain ⟨m, rfl⟩ := Int.eq_ofNat_of_zero_le (show 0 ≤ n by omega)
    by_cases hm : v < 2 ^ m
    · exact ⟨plc x a m v, 0, _, bare_nil E, fun w he => refPlace_any x a m v w hx (by omega) (by omega) hm, fun w he => place_any x a m v w hx (by omega) (by omega) hm⟩
    · exact ⟨0, 4, _, bare_sent E 4 (by decide) (by decide), fun w he => refPlace_range x a m v w hx hv (by omega) (by omega) hm, fun w he => place_range he x a m v (by omega) (by omega) hm⟩
  · exact ⟨0, 12, _, bare_sent E 12 (by decide) (by decide), fun w he => same_below (refPlace_bad x v lo n w h1 h2 h3 h4 h), fun w he => place_bad he x v lo n h1 h2 h3 h4 h⟩

/-- A cut in a block of its own. -/
structure Box (w : World) (g : Nat) (x lo n v num : Int) : Prop where
  c0 : w.cell? ⟨g, 0, none⟩ = some (.int .u32 x)
  c1 : w.cell? ⟨g, 1, none⟩ = some (.int .i64 lo)
  c2 : w.cell? ⟨g, 2, none⟩ = some (.int .i64 n)
  c3 : w.cell? ⟨g, 3, none⟩ = some (.int .u32 v)
  c4 : w.cell? ⟨g, 4, none⟩ = some (.int .i64 num)
theorem Box.below {w w' : World} {g : Nat} {x lo n v num : Int} (h : Box w g x lo n v num) (hb : Below w.heap.size w w') : Box w' g x lo n v num :=
  ⟨cell_below h.c0 hb, cell_below h.c1 hb, cell_below h.c2 hb, cell_below h.c3 hb, cell_below h.c4 hb⟩
theorem Box.new (w : World) (t : TypeId) (x lo n v num : Int) : Box (w.alloc (.cells #[.int .u32 x, .int .i64 lo, .int .i64 n, .int .u32 v, .int .i64 num] t)) w.heap.size x lo n v num :=
  ⟨by rw [World.cell?_alloc_at _ _ _ _ rfl]; rfl, by rw [World.cell?_alloc_at _ _ _ _ rfl]; rfl, by rw [World.cell?_alloc_at _ _ _ _ rfl]; rfl, by rw [World.cell?_alloc_at _ _ _ _ rfl]; rfl, by rw [World.cell?_alloc_at _ _ _ _ rfl]; rfl⟩
end Go.Proofs.YthmibakcjhappaaDoor
