/-
  Walk of the law CrcPieces.
-/
import Derived.Test.YtfggpdddoaageabDoorNine
import Derived.Test.YtfggpdddoaageabDoorShift
namespace FerryCrc
theorem xor_twice (a b : Nat) : a ^^^ b ^^^ b = a := by rw [Nat.xor_assoc, Nat.xor_self, Nat.xor_zero]
theorem mvs_app (r : Nat) (l m : List Nat) : mvs r (l ++ m) = mvs (mvs r l) m := by simp [mvs]
theorem more_sum (l m : List Nat) : moreOf (sumOf l) m = sumOf (l ++ m) := by
  unfold moreOf sumOf
  rw [xor_twice, mvs_app]
theorem more_none (r : Nat) : moreOf r [] = r := by
  unfold moreOf
  exact xor_twice _ _
theorem join_sum (l m : List Nat) : bitsN (8 * m.length) (sumOf l) ^^^ sumOf m = sumOf (l ++ m) := by
  unfold sumOf
  rw [mvs_app, mvs_num (mvs 4294967295 l) m, mvs_num 4294967295 m, ← Nat.xor_assoc, ← bitsN_xor]
  congr 2
  rw [Nat.xor_assoc, ← Nat.xor_assoc 4294967295, Nat.xor_self, Nat.zero_xor]
end FerryCrc
namespace Go.Proofs.YtfggpdddoaageabDoor.crcPieces
open Go.RowKit FerryCrc

theorem sum_lt {l : List Nat} (h : ∀ c ∈ l, c < 256) : sumOf l < 4294967296 := xor_lt32 (mvs_lt (by decide) h) (by decide)
theorem more_zero (a : Option Addr) (len cap : Nat) (l : List Nat) (w : World) (hs : Bts w a len cap l) :
    Calls Tryd.prog 10 #[.int .u32 0, .slice a len cap] w fun e w' => e = .returned (.int .u32 (sumOf l : Nat)) ∧ Below w.heap.size w w' := more_any 0 a len cap l w (by decide) hs
theorem more_nil (r : Nat) (w : World) (h : r < 4294967296) :
    Calls Tryd.prog 10 #[.int .u32 (r : Int), .slice none 0 0] w fun e w' => e = .returned (.int .u32 (r : Nat)) ∧ Below w.heap.size w w' := by
  have := more_any r none 0 0 [] w h ⟨rfl, by decide, by decide, by simp, fun _ => ⟨rfl, rfl⟩, fun k hk => by omega⟩
  rw [more_none] at this
  exact this

theorem below_app1 {w w1 w2 : World} (h : Below w.heap.size w w1) (hg : (w1.alloc (.cells #[] 5)).grownBy w2 (Value.ownBlock (.slice (some ⟨w1.heap.size, 0, none⟩) 0 0))) : Below w.heap.size w w2 :=
  (h.alloc h.size _).grown hg (by have := h.size; simp; omega) (by intro k e; simp [Value.ownBlock] at e; have := h.size; omega)

set_option maxRecDepth 100000 in
theorem law (a : Option Addr) (n ca : Nat) (l : List Nat) (b : Option Addr) (m cb : Nat) (r : List Nat) (w : World) (ha : Bts w a n ca l) (hb : Bts w b m cb r) (hsum : n + m ≤ 140737488355328) :
    Calls Tryd.prog 3 #[.slice a n ca, .slice b m cb] w fun e w' => e = .returned (.bool true) ∧ Below w.heap.size w w' := by
  have hn := ha.most
  have hm := hb.most
  have HA := hide ha
  have HB := hide hb
  have ll := sum_lt ha.small
  have lr := sum_lt hb.small
  have HW : Hid (∀ c ∈ l ++ r, c < 256) := fun c hc => (List.mem_append.1 hc).elim (ha.small c) (hb.small c)
  have HN : Hid ((l ++ r).length = n + m) := by unfold Hid; rw [List.length_append, ha.size, hb.size]
  have hsl := hide ha.size
  have HM := hide (more_sum l r)
  have HJ : Hid (bitsN (8 * m) (sumOf l) ^^^ sumOf r = sumOf (l ++ r)) := by unfold Hid; rw [← hb.size]; exact join_sum l r
  clear ha hb
  go_enter Tryd.func3, Tryd.ntmps3
  go_wp2_with fail
  refine (awake_any w).mono ?_
  rintro e w1 ⟨rfl, hb1⟩
  have hown := own_empty w1
  have hs1 := (HA.out.below hb1).below ((Below.refl _ _).alloc (Nat.le_refl _) (.cells #[] 5))
  have HB1 := hide hb1
  clear hb1
  go_wp2_with (first | (at_builtin; refine append_bts rfl (.tmp 12) (.tmp 13) rfl w1.heap.size (.slice (some ⟨w1.heap.size, 0, none⟩) 0 0) [] rfl hown a n ca l rfl hs1 (by simp; omega) (by simp) ?_; intro v2 w2 hown2 hgrow2 hnil2) | (at_builtin; refine append_bts rfl (.tmp 14) (.tmp 15) rfl w1.heap.size v2 ([] ++ l) rfl hown2 b m cb r rfl (HB.out.below (below_app1 HB1.out hgrow2)) (by rw [List.nil_append, hsl.out]; exact hsum) (Nat.le_trans (by simp) hgrow2.size) ?_; intro v3 w3 hown3 hgrow3 hnil3))
  have hne2 : v2 ≠ .slice none 0 0 := fun e => by simpa using (hnil2.1 e).1
  have hne3 : v3 ≠ .slice none 0 0 := fun e => hne2 (hnil3.1 e).1
  rw [List.nil_append] at hown2 hown3
  obtain ⟨g, c, hv, hg⟩ := own_form hown3 hne3
  rw [HN.out] at hv
  subst hv
  have hb3 : Below w.heap.size w w3 := (below_app1 HB1.out hgrow2).grown hgrow3 (below_app1 HB1.out hgrow2).size (fun k e => Nat.le_trans HB1.out.size (World.ownsRow.lt hown2 k e).1)
  have HB3 := hide hb3
  have HK := hide (hown3.bts HN.out hsum HW.out)
  clear hown2 hown3 hgrow2 hgrow3 hnil2 hnil3 hne2 hne3 hb3 hown hs1
  refine (sum_any _ (n + m) c (l ++ r) w3 HK.out).mono ?_
  rintro e w4 ⟨rfl, hb4⟩
  have HB4 := hide (chain HB3.out hb4)
  clear hb4
  go_wp2_with fail
  refine (sum_any a n ca l w4 (HA.out.below HB4.out)).mono ?_
  rintro e w5 ⟨rfl, hb5⟩
  have HB5 := hide (chain HB4.out hb5)
  clear hb5
  go_wp2_with fail
  refine (sum_any b m cb r w5 (HB.out.below HB5.out)).mono ?_
  rintro e w6 ⟨rfl, hb6⟩
  have HB6 := hide (chain HB5.out hb6)
  clear hb6
  have H7 := hide (more_any (sumOf l) b m cb r w6 ll (HB.out.below HB6.out))
  rw [HM.out] at H7
  generalize hW : sumOf (l ++ r) = W at *
  have HWE := hide hW
  clear hW
  go_wp2_with fail
  refine H7.out.mono ?_
  rintro e w7 ⟨rfl, hb7⟩
  have HB7 := hide (chain HB6.out hb7)
  clear hb7
  go_wp2_with fail
  refine (more_zero a n ca l w7 (HA.out.below HB7.out)).mono ?_
  rintro e w8 ⟨rfl, hb8⟩
  have HB8 := hide (chain HB7.out hb8)
  clear hb8
  go_wp2_with fail
  refine (more_nil (sumOf l) w8 ll).mono ?_
  rintro e w9 ⟨rfl, hb9⟩
  have HB9 := hide (chain HB8.out hb9)
  clear hb9
  have H10 := hide (join_any (sumOf l) (sumOf r) m w9 ll lr (by omega))
  rw [HJ.out] at H10
  go_wp2_with fail
  refine H10.out.mono ?_
  rintro e w10 ⟨rfl, rfl⟩
  go_wp2
  go_ret
  exact ⟨rfl, HB9.out⟩
end Go.Proofs.YtfggpdddoaageabDoor.crcPieces
