/-
  The document's numbers, a note's bytes, Put.
-/
import Derived.Test.YtdbciciljeainaaDoorCkPut
import Derived.Test.YtdbciciljeainaaDoorCkRead
import Derived.Test.YtdbciciljeainaaDoorXrChk
import Derived.Test.YtdbciciljeainaaDoorRefSeal
namespace Go.Proofs.YtdbciciljeainaaDoor
open Go.RowKit FerryCrc
set_option linter.unusedVariables false
set_option linter.unusedSimpArgs false

theorem set_back (L : List Nat) (w j x : Nat) (hl : L.length = w) (hj : j < w) (hx : L[j]? = some x) : (List.replicate (j + 1) 0 ++ L.drop (j + 1)).set j x = List.replicate j 0 ++ L.drop j := by
  have h1 : List.replicate (j + 1) 0 = List.replicate j 0 ++ [0] := by rw [List.replicate_succ']
  rw [h1, List.append_assoc, List.set_append_right _ _ (by simp)]
  have hd : L.drop j = x :: L.drop (j + 1) := by
    rw [List.drop_eq_getElem_cons (by omega)]
    congr 1
    rw [List.getElem?_eq_getElem (by omega)] at hx
    exact Option.some.inj hx
  simp [hd]

set_option maxRecDepth 100000 in
set_option maxHeartbeats 800000 in
theorem dnumber_any (n width : Nat) (w : World) (h4 : width ≤ 4) (h0 : 0 < width) (hn : n < 9223372036854775808) :
    Calls Tryd.prog 61 #[.int .i64 (n : Int), .int .i64 (width : Int)] w fun e w' => e = .returned (.slice (some ⟨w.heap.size, 0, none⟩) width width) ∧ Own w' w.heap.size (.slice (some ⟨w.heap.size, 0, none⟩) width width) (be n width) ∧ Below w.heap.size w w' := by
  have hwm : width ≤ 140737488355328 := by omega
  have hw1 : IntKind.i64.wrap ((width : Int) - 1) = (width : Int) - 1 := by rw [IntKind.wrap_i64]; omega
  go_enter Tryd.func61, Tryd.ntmps61
  go_wp2_with (first | (at_make; refine make_bts rfl (.tmp 7) (.tmp 7) rfl _ _ width rfl rfl rfl rfl hwm ?_; intro w1 hown1 hb1; have HO1 := hide hown1; have HB1 := hide hb1; clear hown1 hb1))
  go_loopw [0, 6] (fun x i wr => ∃ (j m : Nat), j ≤ width ∧ i = .int .i64 ((j : Int) - 1) ∧ x = .int .i64 (m : Int) ∧ Hid (m = n / 256 ^ (width - j)) ∧ Hid (Own wr w.heap.size (.slice (some ⟨w.heap.size, 0, none⟩) width width) (List.replicate j 0 ++ (be n width).drop j)) ∧ Hid (Below w.heap.size w wr)) (fun _ i _ => (intOf i + 1).toNat)
  case atStart =>
    refine ⟨width, n, Nat.le_refl _, rfl, rfl, by unfold Hid; simp, ?_, HB1⟩
    have e : (be n width).drop width = [] := List.drop_of_length_le (by rw [be_len]; exact Nat.le_refl _)
    unfold Hid
    rw [e, List.append_nil]
    exact HO1.out
  case round =>
    obtain ⟨j, m, hj, rfl, rfl, HM, HOR, HBR⟩ := hrel
    by_cases hj0 : j = 0
    · subst hj0
      go_wp2
      go_ret
      exact ⟨rfl, HOR.out, HBR.out⟩
    · obtain ⟨i, rfl⟩ : ∃ i, j = i + 1 := ⟨j - 1, by omega⟩
      have e1 : ((i + 1 : Nat) : Int) - 1 = (i : Int) := by omega
      rw [e1]
      have hi0 : (0 : Int) ≤ (i : Int) := by omega
      have hiw : (i : Int) < (width : Int) := by omega
      have hiw2 : i < width := by omega
      have hmm : m < 9223372036854775808 := by
        have := HM.out
        have h9 : n / 256 ^ (width - (i + 1)) ≤ n := Nat.div_le_self _ _
        omega
      have hL : (List.replicate (i + 1) 0 ++ (be n width).drop (i + 1)).length = width := by
        rw [List.length_append, List.length_replicate, List.length_drop, be_len]
        omega
      have HLL := hide hL
      obtain ⟨x, hx⟩ : ∃ x, (List.replicate (i + 1) 0 ++ (be n width).drop (i + 1))[i]? = some x := ⟨_, List.getElem?_eq_getElem (by rw [hL]; exact hiw2)⟩
      have kk := HOR.out.cellAt hL i x hx
      have kf := HOR.out.frozenAt hL i
      obtain ⟨dg, hdg⟩ : ∃ dg, m % 256 = dg := ⟨_, rfl⟩
      obtain ⟨m2, hm2⟩ : ∃ m2, m / 256 = m2 := ⟨_, rfl⟩
      have hrem : (m : Int).tmod 256 = (dg : Int) := by rw [← hdg]; exact (Int.ofNat_tmod m 256).symm
      have hquo : (m : Int).tdiv 256 = (m2 : Int) := by rw [← hm2]; exact (Int.ofNat_tdiv m 256).symm
      have hcv : IntKind.u8.wrap (dg : Int) = (dg : Int) := by rw [IntKind.wrap_u8]; omega
      have hw2 : IntKind.i64.wrap (m2 : Int) = (m2 : Int) := by rw [IntKind.wrap_i64]; omega
      have hwd : IntKind.i64.wrap (dg : Int) = (dg : Int) := by rw [IntKind.wrap_i64]; omega
      have hbe : (be n width)[i]? = some dg := by
        have := be_at n width (width - (i + 1)) (by omega)
        rw [show width - 1 - (width - (i + 1)) = i by omega] at this
        rw [this, ← hdg, HM.out]
      have HS := hide (HOR.out.stored hL i dg)
      have hsb := set_back (be n width) width i dg (be_len n width) hiw2 hbe
      have HM2 : Hid (m2 = n / 256 ^ (width - i)) := by
        unfold Hid
        rw [← hm2, HM.out, Nat.div_div_eq_div_mul, ← Nat.pow_succ]
        congr 2
        omega
      rw [hsb] at HS
      have hwi : IntKind.i64.wrap ((i : Int) - 1) = (i : Int) - 1 := by rw [IntKind.wrap_i64]; omega
      clear hx hbe hsb hdg hm2 hL
      go_wp2
      exact ⟨⟨i, m2, by omega, by first | rfl | simp, by first | rfl | simp, HM2, HS, HBR.out.setCell (p := ⟨w.heap.size, i, none⟩) (Nat.le_refl _) _⟩, by first | (simp [intOf]; done) | (simp [intOf]; omega)⟩

theorem two_bytes (w : World) (a b : Nat) (ha : a < 256) (hb : b < 256) : Bts (w.alloc (.cells #[.int .u8 (a : Int), .int .u8 (b : Int)] 5)) (some ⟨w.heap.size, 0, none⟩) 2 2 [a, b] :=
  (show Own (w.alloc (.cells #[.int .u8 (a : Int), .int .u8 (b : Int)] 5)) w.heap.size (.slice (some ⟨w.heap.size, 0, none⟩) 2 2) [a, b] from World.ownsRow_lit w #[.int .u8 (a : Int), .int .u8 (b : Int)] 2 (Nat.le_refl _) (by decide) rfl).bts rfl (by decide) (fun x hx => by simp at hx; omega)
theorem three_bytes (w : World) (a b c : Nat) (ha : a < 256) (hb : b < 256) (hc : c < 256) : Bts (w.alloc (.cells #[.int .u8 (a : Int), .int .u8 (b : Int), .int .u8 (c : Int)] 5)) (some ⟨w.heap.size, 0, none⟩) 3 3 [a, b, c] :=
  (show Own (w.alloc (.cells #[.int .u8 (a : Int), .int .u8 (b : Int), .int .u8 (c : Int)] 5)) w.heap.size (.slice (some ⟨w.heap.size, 0, none⟩) 3 3) [a, b, c] from World.ownsRow_lit w #[.int .u8 (a : Int), .int .u8 (b : Int), .int .u8 (c : Int)] 3 (Nat.le_refl _) (by decide) rfl).bts rfl (by decide) (fun x hx => by simp at hx; omega)
/-- Bytes of one's own that grow beside a note in a block. -/
structure Ly (w W : World) (g : Nat) (v : Value) (L : List Nat) (k pt b r m st ix tt sm : Int) (d : ByteArray) : Prop where
  own : Own W (g + 1) v L
  nb : Nb W g k pt b r m st ix tt sm d
  bel : Below w.heap.size w W
  lo : w.heap.size ≤ g
theorem Ly.next {w W W' : World} {g : Nat} {v v' : Value} {L L' : List Nat} {k pt b r m st ix tt sm : Int} {d : ByteArray} (h : Ly w W g v L k pt b r m st ix tt sm d) (h1 : Own W' (g + 1) v' L') (hf : Frm (fun k => v.ownBlock = some k) W W') : Ly w W' g v' L' k pt b r m st ix tt sm d := by
  have h3 := h.lo
  have hg := block_lt_of_cell h.nb.c0
  have hn : ¬ v.ownBlock = some g := fun t => by
    have := (World.ownsRow.lt h.own g t).1
    omega
  refine ⟨h1, ⟨hf.cell h.nb.c0 hn, hf.cell h.nb.c1 hn, hf.cell h.nb.c2 hn, hf.cell h.nb.c3 hn, hf.cell h.nb.c4 hn, hf.cell h.nb.c5 hn, hf.cell h.nb.c6 hn, hf.cell h.nb.c7 hn, hf.cell h.nb.c8 hn, hf.cell h.nb.c9 hn⟩, ?_, h3⟩
  refine h.bel.trans (hf.below (by simp only at hg; omega) (fun k t => ?_))
  have := (World.ownsRow.lt h.own k t).1
  omega
theorem Ly.over {w W W' : World} {g : Nat} {v : Value} {L : List Nat} {k pt b r m st ix tt sm : Int} {d : ByteArray} (h : Ly w W g v L k pt b r m st ix tt sm d) (hb : Below W.heap.size W W') : Ly w W' g v L k pt b r m st ix tt sm d :=
  ⟨h.own.below hb, h.nb.below hb, chain h.bel hb, h.lo⟩
theorem Ly.gt {w W : World} {g : Nat} {v : Value} {L : List Nat} {k pt b r m st ix tt sm : Int} {d : ByteArray} (h : Ly w W g v L k pt b r m st ix tt sm d) : g + 1 ≤ W.heap.size := by
  have hg := block_lt_of_cell h.nb.c0
  simp only at hg
  omega

def pre3 (b r m : Nat) : Nat → List Nat
  | 0 => []
  | 1 => be b 4
  | 2 => be b 4 ++ be r 4
  | _ => be b 4 ++ be r 4 ++ be m 4
theorem pre3_len (b r m j : Nat) : (pre3 b r m j).length ≤ 12 := by
  match j with
  | 0 => simp [pre3]
  | 1 => simp [pre3, be_len]
  | 2 => simp [pre3, be_len]
  | j + 3 => simp [pre3, be_len]
set_option maxRecDepth 100000 in
set_option maxHeartbeats 4000000 in
theorem rlay_any (k pt b r m st ix tt sm : Int) (d : ByteArray) {w : World} (hc : chk ⟨k, pt, b, r, m, st, ix, tt, sm, d⟩ = 0) (s0 : 0 ≤ sm) (s1 : sm < 4294967296) :
    Calls Tryd.prog 32 #[.agg #[.int .i64 k, .int .i64 pt, .int .i64 b, .int .i64 r, .int .i64 m, .int .i64 st, .int .i64 ix, .int .i64 tt, .int .u32 sm, .string d]] w fun e w' => e = .returned (.string (str (sealOf (body ⟨k, pt, b, r, m, st, ix, tt, sm, d⟩)))) ∧ Below w.heap.size w w' := by
  have hn := chk_num hc
  obtain ⟨kN, hk⟩ : ∃ x : Nat, k = (x : Int) := ⟨k.toNat, by have := hn.k; simp only at this; omega⟩
  obtain ⟨pN, hp⟩ : ∃ x : Nat, pt = (x : Int) := ⟨pt.toNat, by have := hn.p; simp only at this; omega⟩
  obtain ⟨bN, hb⟩ : ∃ x : Nat, b = (x : Int) := ⟨b.toNat, by have := hn.b; simp only at this; omega⟩
  obtain ⟨rN, hr⟩ : ∃ x : Nat, r = (x : Int) := ⟨r.toNat, by have := hn.r; simp only at this; omega⟩
  obtain ⟨mN, hm⟩ : ∃ x : Nat, m = (x : Int) := ⟨m.toNat, by have := hn.m; simp only at this; omega⟩
  obtain ⟨sN, hs⟩ : ∃ x : Nat, st = (x : Int) := ⟨st.toNat, by have := hn.s; simp only at this; omega⟩
  obtain ⟨iN, hi⟩ : ∃ x : Nat, ix = (x : Int) := ⟨ix.toNat, by have := hn.i; simp only at this; omega⟩
  obtain ⟨tN, ht⟩ : ∃ x : Nat, tt = (x : Int) := ⟨tt.toNat, by have := hn.t; simp only at this; omega⟩
  obtain ⟨uN, hu⟩ : ∃ x : Nat, sm = (x : Int) := ⟨sm.toNat, by omega⟩
  subst hk hp hb hr hm hs hi ht hu
  have l_k : kN < 256 := by have := hn.k; simp only at this; omega
  have l_p : pN < 256 := by have := hn.p; simp only at this; omega
  have l_b : bN < 4294967296 := by have := hn.b; simp only at this; omega
  have l_r : rN < 4294967296 := by have := hn.r; simp only at this; omega
  have l_m : mN < 4294967296 := by have := hn.m; simp only at this; omega
  have l_s : sN < 256 := by have := hn.s; simp only at this; omega
  have l_i : iN < 256 := by have := hn.i; simp only at this; omega
  have l_t : tN < 256 := by have := hn.t; simp only at this; omega
  have l_u : uN < 4294967296 := by omega
  obtain ⟨z, hz⟩ : ∃ z, d.size = z := ⟨_, rfl⟩
  have l_d : z ≤ 128 := by have := hn.d; simp only at this; omega
  obtain ⟨y, hy⟩ : ∃ y : Nat, 27 + z = y := ⟨_, rfl⟩
  have l_y : y < 65536 := by omega
  have wy : IntKind.i64.wrap (27 + (z : Int)) = (y : Int) := by rw [IntKind.wrap_i64]; omega
  have HBO : Hid (body ⟨(kN : Int), (pN : Int), (bN : Int), (rN : Int), (mN : Int), (sN : Int), (iN : Int), (tN : Int), (uN : Int), d⟩ = be y 2 ++ [kN, pN] ++ be bN 4 ++ be rN 4 ++ be mN 4 ++ [sN, iN, tN] ++ be uN 4 ++ bytesOf d) := by
    unfold Hid body
    simp only [Int.toNat_natCast, hz, hy]
    simp
  have HSM := hide (body_small hn)
  have NB := hide (nb_new w (kN : Int) (pN : Int) (bN : Int) (rN : Int) (mN : Int) (sN : Int) (iN : Int) (tN : Int) (uN : Int) d)
  have D0 := hide (xnew w (.cells #[.int .i64 (kN : Int), .int .i64 (pN : Int), .int .i64 (bN : Int), .int .i64 (rN : Int), .int .i64 (mN : Int), .int .i64 (sN : Int), .int .i64 (iN : Int), .int .i64 (tN : Int), .int .u32 (uN : Int), .string d] 26))
  have HDZ := hide hz
  have HK := hide (And.intro l_k (And.intro l_p (And.intro l_b (And.intro l_r (And.intro l_m (And.intro l_s (And.intro l_i (And.intro l_t (And.intro l_u (And.intro l_d l_y))))))))))
  clear hc hn s0 s1 hy l_k l_p l_b l_r l_m l_s l_i l_t l_u l_d l_y
  have HG0 : Hid (w.heap.size + 1 ≤ (w.alloc (.cells #[.int .i64 (kN : Int), .int .i64 (pN : Int), .int .i64 (bN : Int), .int .i64 (rN : Int), .int .i64 (mN : Int), .int .i64 (sN : Int), .int .i64 (iN : Int), .int .i64 (tN : Int), .int .u32 (uN : Int), .string d] 26)).heap.size) := block_lt_of_cell NB.out.c0
  go_enter Tryd.func32, Tryd.ntmps32
  go_upto_region 1 with fail
  generalize w.alloc (.cells #[.int .i64 (kN : Int), .int .i64 (pN : Int), .int .i64 (bN : Int), .int .i64 (rN : Int), .int .i64 (mN : Int), .int .i64 (sN : Int), .int .i64 (iN : Int), .int .i64 (tN : Int), .int .u32 (uN : Int), .string d] 26) = W0 at *
  have t9 := NB.out.c9
  have HC := hide (dnumber_any y 2 W0 (by decide) (by decide) (by have := HK.out.2.2.2.2.2.2.2.2.2.2; omega))
  go_wp2_with fail
  refine Calls.mono HC.out ?_
  rintro e w1 ⟨rfl, o1, b1⟩
  have HP : Hid (Ly w w1 w.heap.size _ _ (kN : Int) (pN : Int) (bN : Int) (rN : Int) (mN : Int) (sN : Int) (iN : Int) (tN : Int) (uN : Int) d) := ⟨o1.weaken HG0.out, NB.out.below b1, chain D0.out b1, Nat.le_refl _⟩
  clear o1 b1 HC t9 NB D0 HG0 wy hz
  have t0 := HP.out.nb.c0
  have t1 := HP.out.nb.c1
  have wk : IntKind.u8.wrap (kN : Int) = (kN : Int) := by have := HK.out.1; rw [IntKind.wrap_u8]; omega
  have wp : IntKind.u8.wrap (pN : Int) = (pN : Int) := by have := HK.out.2.1; rw [IntKind.wrap_u8]; omega
  have HB2 := hide (two_bytes w1 kN pN HK.out.1 HK.out.2.1)
  have HP1 := hide (HP.out.over ((Below.refl w1.heap.size w1).alloc (Nat.le_refl _) (.cells #[.int .u8 (kN : Int), .int .u8 (pN : Int)] 5)))
  go_upto_region 3 with (refine append_lie rfl (.tmp 11) (.tmp 18) rfl (w.heap.size + 1) _ _ rfl HP1.out.own (some ⟨w1.heap.size, 0, none⟩) 2 2 [kN, pN] rfl HB2.out (by simp only [List.length_append, be_len, List.length_cons, List.length_nil]; omega) HP1.out.gt ?_; intro v' w2 ho hf hn; obtain ⟨a', n', c', rfl⟩ := ho.sl; have HPn := hide (HP1.out.next ho hf); have HNw := hide hn; have HFr := hide hf; clear ho hf hn)
  clear HP HP1 HB2 t0 t1 wk wp
  have HP := HPn
  clear HPn HNw HFr
  obtain ⟨W3, hW3, B3, D3⟩ := box1 w2 [.int .i64 (bN : Int), .int .i64 (rN : Int), .int .i64 (mN : Int)] 3
  obtain ⟨h, hh⟩ : ∃ h, w2.heap.size = h := ⟨_, rfl⟩
  rw [hh] at B3
  have HOB : Hid ((Value.slice a' n' c').ownBlock ≠ some h) := fun e => by have := (World.ownsRow.lt HP.out.own h e).2; omega
  have t2 := HP.out.nb.c2
  have t3 := HP.out.nb.c3
  have t4 := HP.out.nb.c4
  have HW3 := hide hW3
  have HHH := hide hh
  have HB := hide B3
  replace HP := hide (HP.out.over D3)
  clear hW3 hh B3 D3
  go_wp2_with fail
  have hW3 := HW3.out
  have hh := HHH.out
  simp only [hW3, hh]
  clear HW3 HHH hW3 hh t2 t3 t4
  go_loopw [3, 5, 31] (fun v3 v5 i wr => ∃ (j : Nat) (a : Option Addr) (n c : Nat), j ≤ 3 ∧ i = .int .i64 (j : Int) ∧ v3 = .slice a n c ∧ Hid (Ly w wr w.heap.size (.slice a n c) (be y 2 ++ [kN, pN] ++ pre3 bN rN mN j) (kN : Int) (pN : Int) (bN : Int) (rN : Int) (mN : Int) (sN : Int) (iN : Int) (tN : Int) (uN : Int) d) ∧ Hid (Bk wr h [.int .i64 (bN : Int), .int .i64 (rN : Int), .int .i64 (mN : Int)] 3) ∧ Hid ((Value.slice a n c).ownBlock ≠ some h)) (fun _ _ i _ => (3 - intOf i).toNat)
  case atStart => exact ⟨0, a', n', c', by decide, rfl, rfl, by unfold Hid; simp only [pre3, List.append_nil]; exact HP.out, HB.out, HOB.out⟩
  case round =>
    obtain ⟨j, aj, nj, cj, hj, rfl, rfl, HPj, HBj, HOj⟩ := hrel
    clear HP HB HOB
    by_cases hj3 : j = 3
    · subst hj3
      have t5 := HPj.out.nb.c5
      have t6 := HPj.out.nb.c6
      have t7 := HPj.out.nb.c7
      have ws : IntKind.u8.wrap (sN : Int) = (sN : Int) := by have := HK.out.2.2.2.2.2.1; rw [IntKind.wrap_u8]; omega
      have wi : IntKind.u8.wrap (iN : Int) = (iN : Int) := by have := HK.out.2.2.2.2.2.2.1; rw [IntKind.wrap_u8]; omega
      have wt : IntKind.u8.wrap (tN : Int) = (tN : Int) := by have := HK.out.2.2.2.2.2.2.2.1; rw [IntKind.wrap_u8]; omega
      have HB3 := hide (three_bytes wr sN iN tN HK.out.2.2.2.2.2.1 HK.out.2.2.2.2.2.2.1 HK.out.2.2.2.2.2.2.2.1)
      have HP1 := hide (HPj.out.over ((Below.refl wr.heap.size wr).alloc (Nat.le_refl _) (.cells #[.int .u8 (sN : Int), .int .u8 (iN : Int), .int .u8 (tN : Int)] 5)))
      go_upto_region 9 with (refine append_lie rfl (.tmp 40) (.tmp 50) rfl (w.heap.size + 1) _ _ rfl HP1.out.own (some ⟨wr.heap.size, 0, none⟩) 3 3 [sN, iN, tN] rfl HB3.out (by have := pre3_len bN rN mN 3; simp only [List.length_append, be_len, List.length_cons, List.length_nil]; omega) HP1.out.gt ?_; intro v' w5 ho hf hn; obtain ⟨a', n', c', rfl⟩ := ho.sl; have HPn := hide (HP1.out.next ho hf); have HNw := hide hn; have HFr := hide hf; clear ho hf hn)
      clear HPj HBj HOj HP1 HB3 HNw HFr t5 t6 t7 ws wi wt
      have t8 := HPn.out.nb.c8
      have wu : IntKind.i64.wrap (uN : Int) = (uN : Int) := by have := HK.out.2.2.2.2.2.2.2.2.1; rw [IntKind.wrap_i64]; omega
      have HC := hide (dnumber_any uN 4 w5 (by decide) (by decide) (by have := HK.out.2.2.2.2.2.2.2.2.1; omega))
      go_wp2_with fail
      refine Calls.mono HC.out ?_
      rintro e w6 ⟨rfl, o6, b6⟩
      have HX6 := hide (o6.bts (be_len _ _) (by decide) (be_small _ _))
      have HP6 := hide (HPn.out.over b6)
      clear HPn HC o6 b6 t8 wu
      go_upto_region 10 with (refine append_lie rfl (.tmp 52) (.tmp 56) rfl (w.heap.size + 1) _ _ rfl HP6.out.own _ 4 4 _ rfl HX6.out (by have := pre3_len bN rN mN 3; simp only [List.length_append, be_len, List.length_cons, List.length_nil]; omega) HP6.out.gt ?_; intro v' w7 ho hf hn; obtain ⟨a', n', c', rfl⟩ := ho.sl; have HPn := hide (HP6.out.next ho hf); have HNw := hide hn; have HFr := hide hf; clear ho hf hn)
      clear HP6 HX6 HNw HFr
      obtain ⟨c9, w8, hrun, hx, hb8⟩ := conv_lay w7 d z HDZ.out (by have := HK.out.2.2.2.2.2.2.2.2.2.1; omega)
      have HX8 := hide hx
      have HP8 := hide (HPn.out.over hb8)
      have t9 := HPn.out.nb.c9
      clear HPn hx hb8
      go_upto_region 11 with (refine append_lie rfl (.tmp 58) (.tmp 61) rfl (w.heap.size + 1) _ _ rfl HP8.out.own _ z c9 _ rfl HX8.out (by have := pre3_len bN rN mN 3; have := HK.out.2.2.2.2.2.2.2.2.2.1; simp only [List.length_append, be_len, List.length_cons, List.length_nil]; omega) HP8.out.gt ?_; intro v' w9 ho hf hn; obtain ⟨a', n', c', rfl⟩ := ho.sl; have HPn := hide (HP8.out.next ho hf); have HNw := hide hn; have HFr := hide hf; clear ho hf hn)
      clear HP8 HX8 HNw HFr hrun t9
      have HB : Hid (∃ X, X = body ⟨(kN : Int), (pN : Int), (bN : Int), (rN : Int), (mN : Int), (sN : Int), (iN : Int), (tN : Int), (uN : Int), d⟩ ∧ Ly w w9 w.heap.size (.slice a' n' c') X (kN : Int) (pN : Int) (bN : Int) (rN : Int) (mN : Int) (sN : Int) (iN : Int) (tN : Int) (uN : Int) d) := by
        refine ⟨_, rfl, ?_⟩
        have := HPn.out
        simp only [pre3, List.append_assoc] at this
        rw [HBO.out]
        simp only [List.append_assoc]
        exact this
      obtain ⟨X, hX, HP0⟩ := HB.out
      have HLX : Hid (X.length = 23 + z) := by unfold Hid; rw [hX, body_len]; simp only [HDZ.out]
      have HSX : Hid (∀ c ∈ X, c < 256) := by rw [hX]; exact HSM.out
      have HXX := hide hX
      have HO := hide HP0
      clear HPn HB hX HBO HSM HP0
      obtain ⟨a9, c9', e9, hb9⟩ := HO.out.own.shown (by rw [HLX.out]; have := HK.out.2.2.2.2.2.2.2.2.2.1; omega) HSX.out
      simp only [Value.slice.injEq] at e9
      obtain ⟨rfl, rfl, rfl⟩ := e9
      have HSE := hide (refSeal_any _ _ _ X _ hb9 (by rw [HLX.out]; have := HK.out.2.2.2.2.2.2.2.2.2.1; omega))
      have HD9 := hide HO.out.bel
      clear hb9 HO
      go_wp2_with fail
      refine Calls.mono HSE.out ?_
      rintro e w10 ⟨g9, c9, rfl, o9, b9⟩
      have hst := bts_string (o9.bts (by rw [sealOf_length]) (by rw [HLX.out]; have := HK.out.2.2.2.2.2.2.2.2.2.1; omega) (sealOf_small HSX.out))
      have HD10 := hide (chain HD9.out b9)
      clear o9 b9
      go_wp2
      go_ret
      exact ⟨by rw [HXX.out]; rfl, HD10.out⟩
    · rcases (by omega : j = 0 ∨ j = 1 ∨ j = 2) with rfl | rfl | rfl
      · have tc := HBj.out.cell 0 rfl
        have HC := hide (dnumber_any bN 4 wr (by decide) (by decide) (by have := HK.out.2.2.1; omega))
        go_wp2_with fail
        refine Calls.mono HC.out ?_
        rintro e w6 ⟨rfl, o6, b6⟩
        have HX6 := hide (o6.bts (be_len _ _) (by decide) (be_small _ _))
        have HP6 := hide (HPj.out.over b6)
        have HB6 := hide (HBj.out.below b6)
        have hl6 := HBj.out.lt
        have hb6 := b6.size
        clear HC o6 b6 tc
        go_wp2_with (refine append_lie rfl (.tmp 35) (.tmp 37) rfl (w.heap.size + 1) _ _ rfl HP6.out.own _ 4 4 _ rfl HX6.out (by have := pre3_len bN rN mN 0; simp only [List.length_append, be_len, List.length_cons, List.length_nil]; omega) HP6.out.gt ?_; intro v' w7 ho hf hn; obtain ⟨a', n', c', rfl⟩ := ho.sl; have HPn := hide (HP6.out.next ho hf); have HNw := hide hn; have HFr := hide hf; clear ho hf hn)
        refine ⟨?_, by first | (simp [intOf]; done) | (simp [intOf]; omega)⟩
        refine ⟨1, a', n', c', by decide, rfl, rfl, ?_, HB6.out.frm HFr.out HOj.out, ?_⟩
        · have := HPn.out
          simp only [pre3, List.append_assoc, List.append_nil, List.nil_append] at this
          unfold Hid
          simp only [pre3, List.append_assoc, List.append_nil, List.nil_append]
          exact this
        · intro e
          rcases HNw.out h e with t | t
          · exact HOj.out t
          · omega
      · have tc := HBj.out.cell 1 rfl
        have HC := hide (dnumber_any rN 4 wr (by decide) (by decide) (by have := HK.out.2.2.2.1; omega))
        go_wp2_with fail
        refine Calls.mono HC.out ?_
        rintro e w6 ⟨rfl, o6, b6⟩
        have HX6 := hide (o6.bts (be_len _ _) (by decide) (be_small _ _))
        have HP6 := hide (HPj.out.over b6)
        have HB6 := hide (HBj.out.below b6)
        have hl6 := HBj.out.lt
        have hb6 := b6.size
        clear HC o6 b6 tc
        go_wp2_with (refine append_lie rfl (.tmp 35) (.tmp 37) rfl (w.heap.size + 1) _ _ rfl HP6.out.own _ 4 4 _ rfl HX6.out (by have := pre3_len bN rN mN 1; simp only [List.length_append, be_len, List.length_cons, List.length_nil]; omega) HP6.out.gt ?_; intro v' w7 ho hf hn; obtain ⟨a', n', c', rfl⟩ := ho.sl; have HPn := hide (HP6.out.next ho hf); have HNw := hide hn; have HFr := hide hf; clear ho hf hn)
        refine ⟨?_, by first | (simp [intOf]; done) | (simp [intOf]; omega)⟩
        refine ⟨2, a', n', c', by decide, rfl, rfl, ?_, HB6.out.frm HFr.out HOj.out, ?_⟩
        · have := HPn.out
          simp only [pre3, List.append_assoc, List.append_nil, List.nil_append] at this
          unfold Hid
          simp only [pre3, List.append_assoc, List.append_nil, List.nil_append]
          exact this
        · intro e
          rcases HNw.out h e with t | t
          · exact HOj.out t
          · omega
      · have tc := HBj.out.cell 2 rfl
        have HC := hide (dnumber_any mN 4 wr (by decide) (by decide) (by have := HK.out.2.2.2.2.1; omega))
        go_wp2_with fail
        refine Calls.mono HC.out ?_
        rintro e w6 ⟨rfl, o6, b6⟩
        have HX6 := hide (o6.bts (be_len _ _) (by decide) (be_small _ _))
        have HP6 := hide (HPj.out.over b6)
        have HB6 := hide (HBj.out.below b6)
        have hl6 := HBj.out.lt
        have hb6 := b6.size
        clear HC o6 b6 tc
        go_wp2_with (refine append_lie rfl (.tmp 35) (.tmp 37) rfl (w.heap.size + 1) _ _ rfl HP6.out.own _ 4 4 _ rfl HX6.out (by have := pre3_len bN rN mN 2; simp only [List.length_append, be_len, List.length_cons, List.length_nil]; omega) HP6.out.gt ?_; intro v' w7 ho hf hn; obtain ⟨a', n', c', rfl⟩ := ho.sl; have HPn := hide (HP6.out.next ho hf); have HNw := hide hn; have HFr := hide hf; clear ho hf hn)
        refine ⟨?_, by first | (simp [intOf]; done) | (simp [intOf]; omega)⟩
        refine ⟨3, a', n', c', by decide, rfl, rfl, ?_, HB6.out.frm HFr.out HOj.out, ?_⟩
        · have := HPn.out
          simp only [pre3, List.append_assoc, List.append_nil, List.nil_append] at this
          unfold Hid
          simp only [pre3, List.append_assoc, List.append_nil, List.nil_append]
          exact this
        · intro e
          rcases HNw.out h e with t | t
          · exact HOj.out t
          · omega
end Go.Proofs.YtdbciciljeainaaDoor
