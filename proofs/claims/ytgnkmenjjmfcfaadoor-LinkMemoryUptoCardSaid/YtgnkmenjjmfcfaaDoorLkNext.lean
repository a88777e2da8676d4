/-
  A step of a range over the letters under way.
-/
import Derived.Test.YtgnkmenjjmfcfaaDoorLkApp
import Derived.Test.YtgnkmenjjmfcfaaDoorLkFns
namespace Go.Proofs.YtgnkmenjjmfcfaaDoor
open Go.RowKit FerryCrc Q
open Go.Maps (Keyed)
set_option linter.unusedVariables false
set_option linter.unusedSimpArgs false

theorem wp_next {ops : Array Oper} {rest : List Oper} {o : Oper} {a : Act} {Q : Exit → Act → World → Prop} (w : World) (hg : o.guard = none) (it : Operand) (hop : o.op = Op.next it false) (mb r n : Nat) (D : DataW Unit) (M : Int → Option Lt) (left : Lit → Bool) (cnt : Nat) (hm : MIs D M)
    (hit : a.eval it = .pointer (some ⟨r, 0, none⟩)) (h : w.ranges Tryd.prog 3 letR mb r n D left cnt)
    (hDone : cnt = 0 → (∀ z, left z = false) → wpList Tryd.prog ops Q rest (a.put o.dst (.tuple #[.bool false])) w)
    (hMore : ∀ (k f t : Int) (s : ByteArray) (sp : Bool) (w' : World) (cnt' : Nat), left (kl k) = true → M k = some ⟨f, t, s, sp⟩ → w'.ranges Tryd.prog 3 letR mb r n D (fun z => left z && !z.sameKey (kl k)) cnt' → cnt' < cnt → w.grownBy w' (some r) → w'.heap.size = w.heap.size →
      (Instr.entry (.pointer (some ⟨r, 0, none⟩))).run Tryd.prog w' = .ok (.tuple #[.int .i64 k, .agg #[.int .i64 f, .int .i64 t, .string s, .bool sp]]) w' → wpList Tryd.prog ops Q rest (a.put o.dst (.tuple #[.bool true, .int .i64 k, .agg #[.int .i64 f, .int .i64 t, .string s, .bool sp]])) w') : wpList Tryd.prog ops Q (o :: rest) a w := by
  refine wpList_next_ranges w hg it hop _ keyI letR (Value.int .i64) Lt.v (fun key kl hkey => by obtain ⟨x, rfl, _⟩ := Maps.keyOf_int_inv Tryd.underlying3 hkey; exact ⟨x, rfl⟩) (fun v y hv => by obtain ⟨c, rfl, -⟩ := letR_inv hv; exact ⟨c, rfl⟩) mb r n D left cnt hit h hDone ?_
  intro x c kq y w' cnt' hkey hlk hv hat hrg hlt hgr hsz hen
  obtain ⟨x', ex, rfl, hwx⟩ := Maps.keyOf_int_inv Tryd.underlying3 hkey
  cases ex
  have hy := hv
  rw [letR_mk] at hy
  obtain rfl := Option.some.inj hy
  have h1 : Maps.has D (kl x) = true := Maps.has_true_of_atKey hat
  have h2 := hm.has x
  rw [show Maps.has D (kl x) = true from h1] at h2
  obtain ⟨c', hc'⟩ := Option.isSome_iff_exists.1 h2.symm
  have h3 := hm.get x c' (.lit (.bool true)) hc'
  rw [show D.atKey (kl x) (.lit (.bool true)) = c.d from hat _] at h3
  obtain rfl := Lt.d_inj h3
  exact hMore x c.f c.t c.s c.sp w' cnt' hlk hc' hrg hlt hgr hsz hen
theorem wp_range {ops : Array Oper} {rest : List Oper} {o : Oper} {a : Act} {Q : Exit → Act → World → Prop} (w : World) (hg : o.guard = none) (m : Operand) (hop : o.op = Op.range 59 m) (mb n : Nat) (D : DataW Unit) (hm : a.eval m = .map (some mb)) (hown : w.ownsMap Tryd.prog 3 letR mb n D)
    (hK : ∀ w', w'.ranges Tryd.prog 3 letR mb w.heap.size n D (Maps.has D) (Maps.size D) → w.grownBy w' none → w'.heap.size = w.heap.size + 1 → wpList Tryd.prog ops Q rest (a.put o.dst (.pointer (some ⟨w.heap.size, 0, none⟩))) w') : wpList Tryd.prog ops Q (o :: rest) a w :=
  wpList_range_own w hg m _ hop _ _ keyI undMap letR mb n D hm hown hK
end Go.Proofs.YtgnkmenjjmfcfaaDoor
