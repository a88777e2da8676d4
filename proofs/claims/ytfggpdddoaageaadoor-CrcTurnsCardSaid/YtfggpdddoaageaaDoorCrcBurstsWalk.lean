/-
  Walk of the law CrcBursts.
-/
import Derived.Test.YtfggpdddoaageaaDoorBurstBoth
namespace Go.Proofs.YtfggpdddoaageaaDoor.crcBursts
open Go.RowKit FerryCrc

theorem pair_bts (w : World) (x y : Nat) (hx : x < 256) (hy : y < 256) : Bts (w.alloc (.cells #[.int .u8 (x : Int), .int .u8 (y : Int)] 5)) (some ⟨w.heap.size, 0, none⟩) 2 2 [x, y] :=
  (show Own (w.alloc (.cells #[.int .u8 (x : Int), .int .u8 (y : Int)] 5)) w.heap.size (.slice (some ⟨w.heap.size, 0, none⟩) 2 2) [x, y] from World.ownsRow_lit w #[.int .u8 (x : Int), .int .u8 (y : Int)] 2 (Nat.le_refl _) (by decide) rfl).bts rfl (by decide) (by intro c hc; simp at hc; omega)
theorem pair_bts2 (w : World) (B x y : Nat) (hB : w.heap.size = B) (hx : x < 256) (hy : y < 256) : Bts (w.alloc (.cells #[.int .u8 (x : Int), .int .u8 (y : Int)] 5)) (some ⟨B, 0, none⟩) 2 2 [x, y] := by
  subst hB
  exact pair_bts w x y hx hy
theorem below_al (w : World) (o : Obj) : Below w.heap.size w (w.alloc o) := (Below.refl _ _).alloc (Nat.le_refl _) o

theorem burst_two {w : World} {E : Nat → Addr} (he : Errs w E) :
    Calls Tryd.prog 23 #[.slice (some ⟨w.heap.size, 0, none⟩) 2 2, .slice (some ⟨w.heap.size + 1, 0, none⟩) 2 2] ((w.alloc (.cells #[.int .u8 0, .int .u8 0] 5)).alloc (.cells #[.int .u8 64, .int .u8 1] 5)) fun e w' =>
      e = .returned (.tuple #[.int .i64 6, .int .u32 5, .nilIface]) ∧ Below w.heap.size w w' := by
  have hb1 := below_al w (.cells #[.int .u8 0, .int .u8 0] 5)
  have hb2 := below_al (w.alloc (.cells #[.int .u8 0, .int .u8 0] 5)) (.cells #[.int .u8 64, .int .u8 1] 5)
  refine (burst_any (E 4) _ ((he.below (chain hb1 hb2)).v4) ((pair_bts w 0 0 (by decide) (by decide)).below hb2) (pair_bts2 (w.alloc (.cells #[.int .u8 0, .int .u8 0] 5)) (w.heap.size + 1) 64 1 (by simp) (by decide) (by decide)) (by decide)).mono ?_
  rintro e w' ⟨hw, p, h1, h2, h⟩
  have hD : num [0, 0] ^^^ num [64, 1] = 320 := by decide
  rw [hD] at h1 h2 h
  obtain rfl : p = 6 := low_uniq h1 h2 (by decide) (by intro i hi; rcases (by omega : i = 0 ∨ i = 1 ∨ i = 2 ∨ i = 3 ∨ i = 4 ∨ i = 5) with rfl | rfl | rfl | rfl | rfl | rfl <;> decide)
  rcases h with ⟨h, _⟩ | ⟨_, rfl⟩
  · exact absurd h (by decide +kernel)
  · exact ⟨rfl, chain (chain hb1 hb2) hw⟩

set_option maxRecDepth 100000 in
set_option maxHeartbeats 1000000 in
theorem law {E : Nat → Addr} (a : Option Addr) (n ca : Nat) (l : List Nat) (b : Option Addr) (m cb : Nat) (r : List Nat) (w : World) (he : Errs w E) (ha : Bts w a n ca l) (_y0 : n ≤ 140737488351232) (hb : Bts w b m cb r) (_y1 : m ≤ 140737488351232) :
    Calls Tryd.prog 6 #[.slice a n ca, .slice b m cb] w fun e w' => e = .returned (.bool true) ∧ Below w.heap.size w w' := by
  have HE := hide he
  have HA := hide ha
  have HB := hide hb
  have H1 := hide (burst_two he)
  clear he ha hb
  go_enter Tryd.func6, Tryd.ntmps6
  go_wp2_with fail
  refine H1.out.mono ?_
  rintro e w1 ⟨rfl, hb1⟩
  have HB1 := hide hb1
  clear hb1
  obtain ⟨P, M, c, v, hbare, hM, href, hcrc⟩ := burst_both (HE.out.below HB1.out) (HA.out.below HB1.out) (HB.out.below HB1.out)
  have HR := hide href
  have HC := hide hcrc
  have HBA := hide hbare
  clear href hcrc hbare
  go_wp2_with fail
  refine HR.out.mono ?_
  rintro e w2 ⟨rfl, rfl⟩
  go_wp2_with fail
  refine (HC.out w1 (Below.refl _ _)).mono ?_
  rintro e w3 ⟨rfl, hb3⟩
  have HB3 := hide (chain HB1.out hb3)
  clear hb3
  go_wp2_with fail
  refine (plain_yes (HE.out.below HB3.out) v c HBA.out).mono ?_
  rintro e w4 ⟨rfl, hb4⟩
  go_wp2
  go_ret
  exact ⟨rfl, chain HB3.out hb4⟩
end Go.Proofs.YtfggpdddoaageaaDoor.crcBursts
