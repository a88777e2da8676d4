/-
  Lists of strings as memory holds them; clones of them, by the library and by the law; whether two are the same.
-/
import Derived.Test.YtgcodajiehfloaaDoorRw
import Derived.Test.YtgcodajiehfloaaDoorErrHitQ
import Derived.Deep.QuietTactic
namespace Go.Proofs.YtgcodajiehfloaaDoor
open Go.RowKit
set_option linter.unusedVariables false
set_option linter.unusedSimpArgs false

def sv (s : ByteArray) : Value := .string s
theorem sv_one (l : List ByteArray) : ∀ u ∈ l.map sv, u.oneCell' = true := by
  intro u hu
  obtain ⟨c, _, rfl⟩ := List.mem_map.1 hu
  rfl
theorem drewN_below {B : Nat} {a w : World} (h : Below B a w) (nq : Nat) : Below B a (w.drewN nq) := ⟨h.os, h.tape, h.output, h.size, h.block⟩
theorem undrew {w w' : World} (h : Below w.drew.heap.size w.drew w') : Below w.heap.size w w' := (Below.refl _ _).drew.trans h
theorem below_new (W : World) (o : Obj) : Below W.heap.size W (W.alloc o).drew := ((Below.refl _ _).alloc (Nat.le_refl _) o).drew
/-- Strings whose lengths are numbers. -/
def Smalls (l : List ByteArray) : Prop := ∀ s ∈ l, s.size ≤ 9223372036854775807
/-- The strings that a slice shows. -/
structure Sts (w : World) (a : Option Addr) (len cap : Nat) (l : List ByteArray) : Prop where
  size : l.length = len
  most : len ≤ 8796093022207
  small : Smalls l
  row : Row w a len cap 1 (l.map sv)
theorem Sts.below {w w' : World} {a : Option Addr} {len cap : Nat} {l : List ByteArray} (h : Sts w a len cap l) (hb : Below w.heap.size w w') : Sts w' a len cap l := ⟨h.size, h.most, h.small, h.row.below hb⟩
theorem Sts.cell {w : World} {a : Option Addr} {len cap : Nat} {l : List ByteArray} (h : Sts w a len cap l) {k : Nat} {s : ByteArray} (hk : l[k]? = some s) : ∃ b off, a = some ⟨b, off, none⟩ ∧ w.cell? ⟨b, off + k, none⟩ = some (.string s) :=
  h.row.cell k _ (by rw [List.getElem?_map, hk]; rfl)
/-- A list of strings of the call's own, from block 'base' on, or an empty one. -/
def SLk (w : World) (base : Nat) (v : Value) (l : List ByteArray) : Prop := RLk w base 9 1 v l.length (l.map sv)
theorem SLk.below {w w' : World} {base : Nat} {v : Value} {l : List ByteArray} (h : SLk w base v l) (hb : Below w.heap.size w w') : SLk w' base v l := RLk.below h hb
theorem SLk.weaken {w : World} {base base' : Nat} {v : Value} {l : List ByteArray} (h : SLk w base v l) (hb : base' ≤ base) : SLk w base' v l := RLk.weaken h hb
theorem SLk.setCell {w : World} {base : Nat} {v : Value} {l : List ByteArray} (h : SLk w base v l) {p : Addr} (hp : p.block < base) (u : Value) : SLk (w.setCell p u) base v l := RLk.setCell h hp u
theorem SLk.sts {w : World} {base : Nat} {v : Value} {l : List ByteArray} (h : SLk w base v l) (hm : l.length ≤ 8796093022207) (hs : Smalls l) : ∃ a c, v = .slice a l.length c ∧ Sts w a l.length c l := by
  obtain ⟨a, c, e, hr⟩ := h.row
  exact ⟨a, c, e, rfl, hm, hs, hr⟩
theorem slk_nil (w : World) (base : Nat) : SLk w base (.slice none 0 0) [] := .inl (World.ownsRow_nil _ _ _ _)
theorem slk_empty (w : World) (base : Nat) (hb : base ≤ w.heap.size) : SLk (w.alloc (.cells #[] 9)) base (.slice (some ⟨w.heap.size, 0, none⟩) 0 0) [] := .inl (World.ownsRow_lit w #[] 0 hb (by decide) rfl)
theorem infoS : (Tryd.prog.info? 9).map (fun i => (i.zero, i.size, i.bytes)) = some (some (.string ByteArray.empty), 1, 16) := by kernel_rfl

/-- append of whatever strings. -/
theorem append_sts {w : World} {ops : Array Oper} {rest : List Oper} {o : Oper} {act : Act} {Q : Exit → Act → World → Prop} (hgd : o.guard = none) (s x : Operand)
    (ho : o.op = .call { callee := .builtin .append, args := #[s, x], argTypes := #[24, 24] })
    (base : Nat) (v : Value) (xs : List ByteArray) (hs : act.eval s = v) (hv : SLk w base v xs)
    (a : Option Addr) (m c : Nat) (l : List ByteArray) (hx : act.eval x = .slice a m c) (hl : l.length = m) (hr : Row w a m c 1 (l.map sv))
    (hb : xs.length + m ≤ 8796093022208) (hbase : base ≤ w.heap.size)
    (h : ∀ v' w', SLk w' base v' (xs ++ l) → Below base w w' → wpList Tryd.prog ops Q rest (act.put o.dst v') w') : wpList Tryd.prog ops Q (o :: rest) act w := by
  obtain ⟨i0, hi, hz0, hz1, hz2⟩ := info_parts infoS
  refine append_rows hgd s x 24 ho 9 i0 (.string ByteArray.empty) 1 16 Tryd.underlying24 hi hz0 hz1 hz2 rfl (by decide) base v xs.length (xs.map sv) hs hv a m c (l.map sv) hx hr (sv_one l) (by unfold maxLen; omega) (by omega) hbase ?_
  intro v' w' h1 h2
  refine h v' w' ?_ h2
  unfold SLk
  rw [List.length_append, List.map_append, hl]
  exact h1

theorem step_sts {w : World} {ops : Array Oper} {o : Oper} {act : Act} {K : Act → World → Prop} {Q : Exit → Act → World → Prop} {EE : Prop} (hgd : o.guard = none) (s x : Operand)
    (ho : o.op = .call { callee := .builtin .append, args := #[s, x], argTypes := #[24, 24] })
    (base : Nat) (v : Value) (xs : List ByteArray) (hs : act.eval s = v) (hv : SLk w base v xs)
    (a : Option Addr) (m c : Nat) (l : List ByteArray) (hx : act.eval x = .slice a m c) (hl : l.length = m) (hr : Row w a m c 1 (l.map sv))
    (hb : xs.length + m ≤ 8796093022208) (hbase : base ≤ w.heap.size)
    (h : ∀ v' w', SLk w' base v' (xs ++ l) → Below base w w' → K (act.put o.dst v') w') :
    if Region.wanted o (yielded ops act.tmps) = true then Oper.wp Tryd.prog o act w K Q else EE := by
  obtain ⟨i0, hi, hz0, hz1, hz2⟩ := info_parts infoS
  refine step_rows hgd s x 24 ho 9 i0 (.string ByteArray.empty) 1 16 Tryd.underlying24 hi hz0 hz1 hz2 rfl (by decide) base v xs.length (xs.map sv) hs hv a m c (l.map sv) hx hr (sv_one l) (by unfold maxLen; omega) (by omega) hbase ?_
  intro v' w' h1 h2
  refine h v' w' ?_ h2
  unfold SLk
  rw [List.length_append, List.map_append, hl]
  exact h1

set_option maxRecDepth 100000 in
theorem clone_any (a : Option Addr) (len cap : Nat) (l : List ByteArray) (w : World) (hs : Sts w a len cap l) :
    Calls Tryd.prog 35 #[.slice a len cap] w fun e w' => ∃ v, e = .returned v ∧ SLk w' w.heap.size v l ∧ Below w.heap.size w w' := by
  have HS := hide hs
  have hl := hs.size
  have hm := hs.most
  have hq := eql_slice_nil (P := Tryd.prog) w 24 9 a len cap Tryd.underlying24
  clear hs
  match a, HS, hq with
  | none, HS, hq =>
    obtain ⟨rfl, rfl⟩ := HS.out.row.null rfl
    obtain rfl : l = [] := List.length_eq_zero_iff.1 hl
    go_enter Tryd.func35, Tryd.ntmps35
    go_wp2
    go_ret
    exact ⟨_, rfl, slk_nil _ _, Below.refl _ _⟩
  | some ad, HS, hq =>
    have D0 : Hid (Below w.heap.size w (w.alloc (.cells #[] 9))) := (Below.refl _ _).alloc (Nat.le_refl _) _
    go_enter Tryd.func35, Tryd.ntmps35
    go_wp2_with (at_builtin; refine append_sts rfl (.tmp 5) (.tmp 6) rfl w.heap.size _ [] rfl (slk_empty w _ (Nat.le_refl _)) (some ad) len cap l rfl hl (HS.out.row.below D0.out) (by simp; omega) D0.out.size ?_; intro v' w1 h1 b1)
    have D1 := hide (D0.out.trans b1)
    clear b1
    go_wp2
    go_ret
    exact ⟨_, rfl, h1, D1.out⟩

set_option maxRecDepth 100000 in
/-- The law's own copied. -/
theorem lcopied_any (a : Option Addr) (len cap : Nat) (l : List ByteArray) (age : Int) (w : World) (hs : Sts w a len cap l) :
    Calls Tryd.prog 22 #[.agg #[.slice a len cap, .int .i64 age]] w fun e w' => ∃ v, e = .returned (.agg #[v, .int .i64 age]) ∧ SLk w' w.heap.size v l ∧ Below w.heap.size w w' := by
  have HS := hide hs
  have hl := hs.size
  have hm := hs.most
  clear hs
  go_enter Tryd.func22, Tryd.ntmps22
  have t0 := (two_alloc w (.slice a len cap) (.int .i64 age) 26).below ((Below.refl _ _).alloc (Nat.le_refl _) (.cells #[.slice none 0 0, .int .i64 0] 26))
  have t1 := two_alloc (w.alloc (.cells #[.slice a len cap, .int .i64 age] 26)) (.slice none 0 0) (.int .i64 0) 26
  have D0 := hide (chain ((Below.refl _ _).alloc (Nat.le_refl _) (.cells #[.slice a len cap, .int .i64 age] 26)) ((Below.refl (w.alloc (.cells #[.slice a len cap, .int .i64 age] 26)).heap.size _).alloc (Nat.le_refl _) (.cells #[.slice none 0 0, .int .i64 0] 26)))
  have hsz : ((w.alloc (.cells #[.slice a len cap, .int .i64 age] 26)).alloc (.cells #[.slice none 0 0, .int .i64 0] 26)).heap.size = w.heap.size + 2 := by simp
  have hs1 : (w.alloc (.cells #[.slice a len cap, .int .i64 age] 26)).heap.size = w.heap.size + 1 := by simp
  rw [hs1] at t1
  have T0 := hide t0
  have T1 := hide t1
  have HR := hide (HS.out.row.below D0.out)
  clear t0 t1
  go_wp2_with fail
  clear hs1
  generalize (w.alloc (.cells #[.slice a len cap, .int .i64 age] 26)).alloc (.cells #[.slice none 0 0, .int .i64 0] 26) = W0 at *
  go_region_held3 (fun wz => wz.cell? ⟨w.heap.size, 0, none⟩ = some (.slice a len cap) ∧ wz.cell? ⟨w.heap.size, 1, none⟩ = some (.int .i64 age)) (first | exact ⟨T0.out.c0, T0.out.c1⟩ | (have q0 := T0.out.below (below_new W0 (.cells #[] 9)); exact ⟨q0.c0, q0.c1⟩) | (have q0 := T0.out.below B1.out; exact ⟨q0.c0, q0.c1⟩) | (have q0 := ((T0.out.below B1.out).far (b' := w.heap.size + 1) (o := 0) (u := .slice a1 len c1) (by omega)).far (b' := w.heap.size + 1) (o := 1) (u := .int .i64 age) (by omega); exact ⟨q0.c0, q0.c1⟩))
    ((refine step_sts (by rfl) (.tmp 3) (.tmp 5) (by rfl) W0.heap.size (.slice (some ⟨W0.heap.size, 0, none⟩) 0 0) [] (by simp [Act.eval, Act.put, hsz]) ((slk_empty W0 _ (Nat.le_refl _)).below ((Below.refl _ _).drew)) a len cap l (by simp [Act.eval, Act.put]) hl (HR.out.below (below_new _ _)) (by simp; omega) (below_new W0 _).size ?_; intro v1 w1 h1 b1; have B1 := hide ((below_new W0 (.cells #[] 9)).trans b1); rw [List.nil_append] at h1; obtain ⟨a1, c1, rfl, _⟩ := h1.row; rw [hl] at h1 ⊢; have H1 := hide h1; have q := T1.out.below B1.out; have qa := q.c0; have qb := q.c1; have qc := q.f0; have qd := q.f1; clear b1 h1 q))
  have Q1 := hide ((T1.out.below B1.out).set (.slice a1 len c1) (.int .i64 age))
  have HF := hide ((H1.out.setCell (p := ⟨w.heap.size + 1, 0, none⟩) (by rw [hsz]; simp) (.slice a1 len c1)).setCell (p := ⟨w.heap.size + 1, 1, none⟩) (by rw [hsz]; simp) (.int .i64 age))
  have BF := hide (((chain D0.out B1.out).setCell (p := ⟨w.heap.size + 1, 0, none⟩) (by simp) (.slice a1 len c1)).setCell (p := ⟨w.heap.size + 1, 1, none⟩) (by simp) (.int .i64 age))
  clear T0 T1 D0 B1 H1 HR
  generalize (w1.setCell ⟨w.heap.size + 1, 0, none⟩ (.slice a1 len c1)).setCell ⟨w.heap.size + 1, 1, none⟩ (.int .i64 age) = W9 at *
  have q0 := Q1.out.c0
  have q1 := Q1.out.c1
  clear Q1
  go_wp2
  (try simp only [Exit.inBlock, Exit.then])
  refine bodyPost_ret (v := .agg #[.slice a1 len c1, .int .i64 age]) (by simp [results, Tryd.results22, go_sem, q0, q1]) rfl ?_
  exact ⟨_, rfl, HF.out.weaken (by rw [hsz]; omega), BF.out⟩

set_option maxRecDepth 100000 in
theorem sameTexts_yes (a a' : Option Addr) (len c c' : Nat) (l : List ByteArray) (w : World) (hs : Sts w a len c l) (hs' : Sts w a' len c' l) :
    Calls Tryd.prog 31 #[.slice a len c, .slice a' len c'] w fun e w' => e = .returned (.bool true) ∧ Below w.heap.size w w' := by
  have hm := hs.most
  have HS := hide hs
  have HS' := hide hs'
  clear hs hs'
  go_enter Tryd.func31, Tryd.ntmps31
  go_wp2
  go_loopw [5] (fun i wr => ∃ k : Nat, k ≤ len ∧ i = .int .i64 k ∧ Hid (Below w.heap.size w wr)) (fun i _ => len - (intOf i).toNat)
  case atStart => exact ⟨0, by omega, rfl, Below.refl _ _⟩
  case round =>
    obtain ⟨k, hk, rfl, hb⟩ := hrel
    by_cases hlt : k < len
    · obtain ⟨x, hx⟩ : ∃ x, l[k]? = some x := ⟨_, List.getElem?_eq_getElem (by rw [HS.out.size]; exact hlt)⟩
      obtain ⟨b, off, rfl, h1⟩ := (HS.out.below hb.out).cell hx
      obtain ⟨b', off', rfl, h2⟩ := (HS'.out.below hb.out).cell hx
      clear hx
      go_wp2_with fail
      go_quiet (fail)
      go_wp2
      go_roundw
      case rel => exact ⟨k + 1, by omega, by go_num, drewN_below hb.out nq⟩
      case measure => simp [intOf]; omega
    · obtain rfl : k = len := by omega
      go_wp2
      go_ret
      exact ⟨rfl, hb.out⟩
end Go.Proofs.YtgcodajiehfloaaDoor
