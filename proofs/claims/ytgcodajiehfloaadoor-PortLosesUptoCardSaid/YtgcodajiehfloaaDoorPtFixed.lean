/-
  The law's own small test with fixed answers.
-/
import Derived.Test.YtgcodajiehfloaaDoorPtGet
import Derived.Test.YtgcodajiehfloaaDoorPtSame
namespace Go.Proofs.YtgcodajiehfloaaDoor
open Go.RowKit
set_option linter.unusedVariables false
set_option linter.unusedSimpArgs false

abbrev sx : ByteArray := ⟨#[120]⟩
abbrev sy : ByteArray := ⟨#[121]⟩
abbrev sz : ByteArray := ⟨#[122]⟩
abbrev sab : ByteArray := ⟨#[97, 98]⟩
theorem fx1 : movErr true 1 4 1 2 [sx] 9 sab = 0 := by kernel_rfl
theorem fx2 : movL true 1 4 1 2 [sx] 9 sab = [sab] := by kernel_rfl
theorem fx3 : getErr 3 4 2 0 [sx, sy] 0 = 0 := by kernel_rfl
theorem fx4 : got 3 4 2 0 [sx, sy] 0 = ⟨[sy], 0, sx, true⟩ := by kernel_rfl
theorem fx5 : movErr true 3 4 2 0 [sx, sy] 0 sz = 14 := by kernel_rfl

/-- A plan, as a variable holds it. -/
structure Pl (w : World) (b : Nat) (k s d r : Int) : Prop where
  c0 : w.cell? ⟨b, 0, none⟩ = some (.int .i64 k)
  c1 : w.cell? ⟨b, 1, none⟩ = some (.int .i64 s)
  c2 : w.cell? ⟨b, 2, none⟩ = some (.int .i64 d)
  c3 : w.cell? ⟨b, 3, none⟩ = some (.int .i64 r)
theorem Pl.below {w w' : World} {b : Nat} {k s d r : Int} (h : Pl w b k s d r) (hb : Below w.heap.size w w') : Pl w' b k s d r :=
  ⟨cell_below h.c0 hb, cell_below h.c1 hb, cell_below h.c2 hb, cell_below h.c3 hb⟩
theorem pl_alloc (w : World) (k s d r : Int) : Pl (w.alloc (.cells #[.int .i64 k, .int .i64 s, .int .i64 d, .int .i64 r] 23)) w.heap.size k s d r :=
  ⟨by rw [World.cell?_alloc_at _ _ _ _ rfl]; rfl, by rw [World.cell?_alloc_at _ _ _ _ rfl]; rfl, by rw [World.cell?_alloc_at _ _ _ _ rfl]; rfl, by rw [World.cell?_alloc_at _ _ _ _ rfl]; rfl⟩
theorem new_below (w : World) (o : Obj) : Below w.heap.size w (w.alloc o) := (Below.refl _ _).alloc (Nat.le_refl _) _
theorem small1 (x : ByteArray) (h : x.size ≤ 9223372036854775807) : Smalls [x] := fun y hy => by rw [List.mem_singleton.1 hy]; exact h
theorem sts_lit (w : World) (D : ByteArray) (h : D.size ≤ 9223372036854775807) : Sts (w.alloc (.cells #[.string D] 9)) (some ⟨w.heap.size, 0, none⟩) 1 1 [D] := ⟨rfl, by decide, small1 D h, row_lit w D⟩
theorem sts_lit2 (w : World) (C D : ByteArray) (h : C.size ≤ 9223372036854775807) (h' : D.size ≤ 9223372036854775807) : Sts (w.alloc (.cells #[.string C, .string D] 9)) (some ⟨w.heap.size, 0, none⟩) 2 2 [C, D] :=
  ⟨rfl, by decide, fun x hx => by
    simp only [List.mem_cons, List.not_mem_nil, or_false] at hx
    rcases hx with rfl | rfl
    · exact h
    · exact h', rfl, Nat.le_refl _, fun e => by simp at e, fun j v hv => ⟨_, _, rfl, by
    rw [World.cell?_alloc_at _ _ _ _ (by simp)]
    simp only [Nat.zero_add]
    simpa [sv] using hv⟩⟩
theorem bare0 {E : Nat → Addr} {v : Value} (h : Bare E v 0) : v = .nilIface := by
  rcases h with ⟨h, _⟩ | ⟨h, _⟩
  · exact h
  · omega

set_option maxRecDepth 100000 in
set_option maxHeartbeats 4000000 in
theorem fixed_yes {w : World} {E : Nat → Addr} (he : Errs w E) :
    Calls Tryd.prog 5 #[] w fun e w' => e = .returned (.bool true) ∧ Below w.heap.size w w' := by
  have HE := hide he
  clear he
  have hn1 : ((w.alloc (.cells #[.int .i64 1, .int .i64 4, .int .i64 1, .int .i64 2] 23)).alloc (.cells #[.int .i64 3, .int .i64 4, .int .i64 2, .int .i64 0] 23)).heap.size = w.heap.size + 1 + 1 := by simp
  have hn0 : (w.alloc (.cells #[.int .i64 1, .int .i64 4, .int .i64 1, .int .i64 2] 23)).heap.size = w.heap.size + 1 := by simp
  have p2 := (pl_alloc (w.alloc (.cells #[.int .i64 1, .int .i64 4, .int .i64 1, .int .i64 2] 23)) 3 4 2 0).below (new_below _ (.cells #[.string sx] 9))
  rw [hn0] at p2
  have st := sts_lit ((w.alloc (.cells #[.int .i64 1, .int .i64 4, .int .i64 1, .int .i64 2] 23)).alloc (.cells #[.int .i64 3, .int .i64 4, .int .i64 2, .int .i64 0] 23)) sx (by decide)
  rw [hn1] at st
  have D0 := hide (chain (chain (new_below w (.cells #[.int .i64 1, .int .i64 4, .int .i64 1, .int .i64 2] 23)) (new_below _ (.cells #[.int .i64 3, .int .i64 4, .int .i64 2, .int .i64 0] 23))) (new_below _ (.cells #[.string sx] 9)))
  have P0 := hide p2
  have S0 := hide st
  clear p2 st
  go_enter Tryd.func5, Tryd.ntmps5
  go_wp2_with fail
  clear hn0 hn1
  generalize (((w.alloc (.cells #[.int .i64 1, .int .i64 4, .int .i64 1, .int .i64 2] 23)).alloc (.cells #[.int .i64 3, .int .i64 4, .int .i64 2, .int .i64 0] 23)).alloc (.cells #[.string sx] 9)) = W0 at *
  have H1 := put_any (HE.out.below D0.out) 1 4 1 2 9 _ 1 1 [sx] sab S0.out (by decide)
  rw [fx1, fx2] at H1
  refine Calls.mono H1 ?_
  clear H1
  rintro e w1 ⟨x1, v1, rfl, hv1, o1, b1⟩
  obtain rfl := bare0 hv1
  obtain ⟨a1, c1, rfl, _⟩ := o1.row
  have O1 := hide o1
  have D1 := hide (chain D0.out b1)
  have P1 := hide (P0.out.below b1)
  have hx1 : (w1.alloc (.cells #[.slice a1 1 c1, .int .i64 0] 26)).heap.size = w1.heap.size + 1 := by simp
  obtain ⟨_, _, e1, s1⟩ := o1.sts (by decide) (small1 sab (by decide))
  simp only [Value.slice.injEq] at e1
  obtain ⟨rfl, _, rfl⟩ := e1
  have s2 := sts_lit (w1.alloc (.cells #[.slice a1 1 c1, .int .i64 0] 26)) sab (by decide)
  rw [hx1] at s2
  have BX := hide (chain (new_below w1 (.cells #[.slice a1 1 c1, .int .i64 0] 26)) (new_below _ (.cells #[.string sab] 9)))
  have C1 := hide (refSame_yes _ _ 1 _ _ [sab] 0 _ (s1.below BX.out) s2)
  clear o1 b1 hv1 D0 P0 S0 s1 s2 O1
  go_wp2_with fail
  clear hx1
  generalize ((w1.alloc (.cells #[.slice a1 1 c1, .int .i64 0] 26)).alloc (.cells #[.string sab] 9)) = X1 at *
  refine Calls.mono C1.out ?_
  rintro e w2 ⟨rfl, b2⟩
  have D2 := hide (chain D1.out (chain BX.out b2))
  have P2 := hide (P1.out.below (chain BX.out b2))
  clear b2 BX C1 D1 P1
  have k0 := P2.out.c0
  have k1 := P2.out.c1
  have k2 := P2.out.c2
  have k3 := P2.out.c3
  have D3 := hide (chain D2.out (new_below w2 (.cells #[.string sx, .string sy] 9)))
  have P3 := hide (P2.out.below (new_below w2 (.cells #[.string sx, .string sy] 9)))
  have H2 := get_any (HE.out.below D3.out) 3 4 2 0 0 _ 2 2 [sx, sy] (sts_lit2 w2 sx sy (by decide) (by decide))
  rw [fx3, fx4] at H2
  have G2 := hide H2
  clear H2
  go_wp2_with fail
  generalize (w2.alloc (.cells #[.string sx, .string sy] 9)) = X2 at *
  refine Calls.mono G2.out ?_
  rintro e w4 ⟨x4, v4, rfl, hv4, o4, b4⟩
  obtain rfl := bare0 hv4
  obtain ⟨a4, c4, rfl, _⟩ := o4.row
  have D4 := hide (chain D3.out b4)
  have P4 := hide (P3.out.below b4)
  have hx4 : (w4.alloc (.cells #[.slice a4 1 c4, .int .i64 0] 26)).heap.size = w4.heap.size + 1 := by simp
  obtain ⟨_, _, e4, s4⟩ := o4.sts (by decide) (small1 sy (by decide))
  simp only [Value.slice.injEq] at e4
  obtain ⟨rfl, _, rfl⟩ := e4
  have s5 := sts_lit (w4.alloc (.cells #[.slice a4 1 c4, .int .i64 0] 26)) sy (by decide)
  rw [hx4] at s5
  have BX := hide (chain (new_below w4 (.cells #[.slice a4 1 c4, .int .i64 0] 26)) (new_below _ (.cells #[.string sy] 9)))
  have C1 := hide (refSame_yes _ _ 1 _ _ [sy] 0 _ (s4.below BX.out) s5)
  clear k0 k1 k2 k3 D2 P2 D3 P3 G2 b4 hv4 s4 s5 o4
  go_wp2_with fail
  clear hx4
  generalize ((w4.alloc (.cells #[.slice a4 1 c4, .int .i64 0] 26)).alloc (.cells #[.string sy] 9)) = X4 at *
  refine Calls.mono C1.out ?_
  rintro e w5 ⟨rfl, b5⟩
  have D5 := hide (chain D4.out (chain BX.out b5))
  have P5 := hide (P4.out.below (chain BX.out b5))
  clear b5 BX C1 D4 P4
  have k0 := P5.out.c0
  have k1 := P5.out.c1
  have k2 := P5.out.c2
  have k3 := P5.out.c3
  have D6 := hide (chain D5.out (new_below w5 (.cells #[.string sx, .string sy] 9)))
  have H6 := put_any (HE.out.below D6.out) 3 4 2 0 0 _ 2 2 [sx, sy] sz (sts_lit2 w5 sx sy (by decide) (by decide)) (by decide)
  rw [fx5] at H6
  have G6 := hide H6
  clear H6
  go_wp2_with fail
  generalize (w5.alloc (.cells #[.string sx, .string sy] 9)) = X5 at *
  refine Calls.mono G6.out ?_
  rintro e w7 ⟨x7, v7, rfl, hv7, o7, b7⟩
  obtain ⟨a7, c7, rfl, _⟩ := o7.row
  have D7 := hide (chain D6.out b7)
  have HC := hide (code_any (HE.out.below (chain D6.out b7)) v7 14 _ (hv7.err (w := w7)))
  clear k0 k1 k2 k3 D5 P5 D6 G6 b7 hv7 o7
  go_wp2_with fail
  refine Calls.mono HC.out ?_
  rintro e w8 ⟨rfl, rfl⟩
  go_wp2
  go_ret
  exact ⟨rfl, D7.out⟩
end Go.Proofs.YtgcodajiehfloaaDoor
